package rs_test

import (
	"math"
	"slices"
	"strings"
	"testing"

	"sheetpile/api"
	"sheetpile/gf"
	"sheetpile/rs"
)

// somePairs are k and m that may be, the least and the greatest among them.
func somePairs() [][2]int {
	return [][2]int{
		{1, 0}, {1, 1}, {1, 2}, {2, 0}, {2, 1}, {2, 3}, {3, 2}, {4, 4}, {7, 1}, {16, 16},
		{1, 254}, {2, 253}, {127, 128}, {128, 127}, {254, 0}, {254, 1}, {255, 0},
	}
}

// someTexts are n texts of one length, no two alike where the length allows it.
func someTexts(n, length int) []string {
	texts := make([]string, n)
	x := uint32(n*1000 + length)
	for i := range texts {
		b := make([]byte, length)
		for j := range b {
			x = x*1664525 + 1013904223
			b[j] = byte(x >> 24)
		}
		texts[i] = string(b)
	}
	return texts
}

func inverse(a byte) byte {
	x := byte(1)
	for gf.Mul(a, x) != 1 {
		x++
	}
	return x
}

// written is the codeword by the chapters' words alone.
func written(data []string, m int) []string {
	k := len(data)
	codeword := slices.Clone(data)
	for i := range m {
		shard := make([]byte, len(data[0]))
		for j, text := range data {
			c := inverse(byte((k + i) ^ j))
			for at := range shard {
				shard[at] ^= gf.Mul(c, text[at])
			}
		}
		codeword = append(codeword, string(shard))
	}
	return codeword
}

// leave is what is left of shards: those whose bit is 0 are lost, and stand
// there with any length.
func leave(shards []string, mask int) ([]string, []bool) {
	left, have := slices.Clone(shards), make([]bool, len(shards))
	for n := range left {
		have[n] = mask>>n&1 == 1
		if !have[n] {
			left[n] = strings.Repeat("?", n*3%7)
		}
	}
	return left, have
}

func allOf(n int) []bool { return slices.Repeat([]bool{true}, n) }

func countOf(have []bool) int {
	n := 0
	for _, is := range have {
		if is {
			n++
		}
	}
	return n
}

func TestEncode(t *testing.T) { // P5.1
	got, err := rs.Encode([]string{"a", "b"}, 1)
	want := []string{"a", "b", string([]byte{gf.Mul(0x8E, 'a') ^ gf.Mul(0xF4, 'b')})}
	if err != api.OK || !slices.Equal(got, want) {
		t.Errorf("the chapter's example: %q, %d", got, err)
	}
	for _, c := range somePairs() {
		for _, length := range []int{0, 1, 2, 9} {
			data := someTexts(c[0], length)
			got, err := rs.Encode(data, c[1])
			if err != api.OK || !slices.Equal(got, written(data, c[1])) {
				t.Errorf("Encode of %d of %d bytes, %d: %q, %d", c[0], length, c[1], got, err)
			}
			if !rs.Is(c[0], got) {
				t.Errorf("Encode of %d of %d bytes, %d: no codeword", c[0], length, c[1])
			}
		}
	}
	long := someTexts(3, 5000)
	if got, err := rs.Encode(long, 2); err != api.OK || !slices.Equal(got, written(long, 2)) {
		t.Errorf("Encode of long texts: %d", err)
	}
}

func TestEncodeWrong(t *testing.T) { // P5.1, R3
	for i, c := range []struct {
		data []string
		m    int
	}{
		{nil, 0}, {nil, 1}, {[]string{}, 255}, {nil, -1},
		{[]string{"a"}, -1}, {[]string{"a"}, 255}, {[]string{"a"}, math.MaxInt}, {[]string{"a"}, math.MinInt},
		{someTexts(255, 1), 1}, {someTexts(256, 1), 0}, {someTexts(256, 1), -1}, {someTexts(128, 1), 128}, {someTexts(1000, 1), 0},
		{[]string{"a", "bc"}, 1}, {[]string{"ab", "c"}, 1}, {[]string{"", "a"}, 1}, {[]string{"a", ""}, 1},
		{[]string{"a", "b", "c", "de"}, 0}, {[]string{"a", "b", "cd", "e"}, 2},
	} {
		if got, err := rs.Encode(c.data, c.m); err != api.ErrArg || len(got) != 0 {
			t.Errorf("case %d: %q, %d", i, got, err)
		}
	}
}

func TestIs(t *testing.T) { // P5.1
	for _, c := range somePairs() {
		k, m := c[0], c[1]
		codeword := written(someTexts(k, 3), m)
		if !rs.Is(k, codeword) {
			t.Errorf("%d, %d: it is one", k, m)
		}
		for n := 0; n < len(codeword); n += 1 + len(codeword)/9 {
			for at := range 3 {
				other := slices.Clone(codeword)
				b := []byte(other[n])
				b[at] ^= 1 << (n % 8)
				other[n] = string(b)
				if rs.Is(k, other) != (m == 0) {
					t.Errorf("%d, %d: byte %d of shard %d changed: %t", k, m, at, n, m != 0)
				}
			}
			other := slices.Clone(codeword)
			other[n] += "\x00"
			if len(codeword) > 1 && rs.Is(k, other) {
				t.Errorf("%d, %d: shard %d is longer", k, m, n)
			}
			other[n] = codeword[n][:2]
			if len(codeword) > 1 && rs.Is(k, other) {
				t.Errorf("%d, %d: shard %d is shorter", k, m, n)
			}
		}
	}
}

func TestIsHowMany(t *testing.T) { // P5.1
	codeword := written(someTexts(3, 4), 2)
	for k := -3; k <= 300; k++ {
		if rs.Is(k, codeword) != (k == 3 || k == 5) {
			t.Errorf("of %d: %t", k, k != 3 && k != 5)
		}
	}
	for _, k := range []int{math.MinInt, math.MinInt + 5, math.MaxInt, 1 << 32, 1<<32 + 3, -1 << 32} {
		if rs.Is(k, codeword) {
			t.Errorf("of %d: it is none", k)
		}
	}
	for k := -1; k <= 2; k++ {
		if rs.Is(k, nil) {
			t.Errorf("no shards, of %d", k)
		}
	}
	empty := make([]string, 256)
	if !rs.Is(1, empty[:1]) || !rs.Is(2, empty[:5]) || !rs.Is(100, empty[:255]) || rs.Is(100, empty) || rs.Is(256, empty) {
		t.Error("shards of no bytes")
	}
}

func TestDecodeAllThatMayBeLeft(t *testing.T) { // P5.2, P5.3, P5.4, R3
	for _, c := range [][2]int{{1, 0}, {1, 1}, {1, 4}, {2, 0}, {2, 1}, {2, 3}, {3, 2}, {3, 4}, {4, 1}, {5, 3}} {
		k := c[0]
		data := someTexts(k, 5)
		codeword := written(data, c[1])
		for mask := range 1 << len(codeword) {
			shards, have := leave(codeword, mask)
			got, err := rs.Decode(k, shards, have)
			if countOf(have) < k {
				if err != api.ErrFew || len(got) != 0 {
					t.Errorf("%v, mask %b: %q, %d", c, mask, got, err)
				}
				if s, err := rs.Repair(k, shards, have, 0); err != api.ErrFew || s != "" {
					t.Errorf("Repair %v, mask %b: %q, %d", c, mask, s, err)
				}
				continue
			}
			if err != api.OK || !slices.Equal(got, data) {
				t.Errorf("%v, mask %b: %q, %d", c, mask, got, err)
			}
			for n := range codeword {
				if s, err := rs.Repair(k, shards, have, n); err != api.OK || s != codeword[n] {
					t.Errorf("Repair %v, mask %b, %d: %q, %d", c, mask, n, s, err)
				}
			}
		}
	}
}

func TestDecodeGreatest(t *testing.T) { // P5.2, P5.3, P5.4
	for _, c := range [][2]int{{1, 254}, {2, 253}, {127, 128}, {128, 127}, {254, 1}, {255, 0}} {
		k, m := c[0], c[1]
		data := someTexts(k, 2)
		codeword := written(data, m)
		// The first m are lost, then the last m, then m that are spread.
		for way := range 3 {
			shards, have := slices.Clone(codeword), allOf(k+m)
			for i := range m {
				n := []int{i, k + i, i * (k + m) / m}[way]
				have[n], shards[n] = false, "gone"
			}
			got, err := rs.Decode(k, shards, have)
			if err != api.OK || !slices.Equal(got, data) {
				t.Errorf("%v, way %d: %q, %d", c, way, got, err)
			}
			for _, n := range []int{0, k - 1, k + m - 1} {
				if s, err := rs.Repair(k, shards, have, n); err != api.OK || s != codeword[n] {
					t.Errorf("%v, way %d, shard %d: %q, %d", c, way, n, s, err)
				}
			}
		}
	}
	none := make([]string, 255)
	if got, err := rs.Decode(255, none, make([]bool, 255)); err != api.ErrFew || len(got) != 0 {
		t.Errorf("none of 255: %q, %d", got, err)
	}
}

func TestDecodeFirstOnly(t *testing.T) { // P5.2, P5.3
	data := someTexts(3, 4)
	codeword := written(data, 3)
	for mask := range 1 << 6 {
		shards, have := leave(codeword, mask)
		first := 0
		for n := range shards {
			if have[n] && first >= 3 {
				shards[n] = "junk"
			} else if have[n] {
				first++
			}
		}
		if first < 3 {
			continue
		}
		if got, err := rs.Decode(3, shards, have); err != api.OK || !slices.Equal(got, data) {
			t.Errorf("mask %b: %q, %d", mask, got, err)
		}
		for n := range codeword {
			if s, err := rs.Repair(3, shards, have, n); err != api.OK || s != codeword[n] {
				t.Errorf("mask %b, shard %d: %q, %d", mask, n, s, err)
			}
		}
	}
	// What the first k are, goes: the codeword is theirs, whatever they were.
	any, have := someTexts(6, 4), []bool{false, true, false, false, true, true}
	got, err := rs.Decode(3, any, have)
	if err != api.OK {
		t.Fatal(err)
	}
	whole := written(got, 3)
	for n := range any {
		if have[n] && whole[n] != any[n] {
			t.Errorf("shard %d: %q, not %q", n, whole[n], any[n])
		}
	}
}

func TestDecodeNoBytes(t *testing.T) { // P5.2, P5.3
	shards, have := []string{"", "any", "", ""}, []bool{true, false, true, false}
	if got, err := rs.Decode(2, shards, have); err != api.OK || !slices.Equal(got, []string{"", ""}) {
		t.Errorf("Decode: %q, %d", got, err)
	}
	for n := range 4 {
		if s, err := rs.Repair(2, shards, have, n); err != api.OK || s != "" {
			t.Errorf("Repair %d: %q, %d", n, s, err)
		}
	}
	if got, err := rs.Delta([]string{"", "", ""}, 2, 1, ""); err != api.OK || !slices.Equal(got, []string{"", "", ""}) {
		t.Errorf("Delta: %q, %d", got, err)
	}
}

func TestDecodeWrong(t *testing.T) { // P5.2, P5.3, R2, R3
	l := written(someTexts(3, 4), 2)
	with := func(n int, text string) []string {
		other := slices.Clone(l)
		other[n] = text
		return other
	}
	few := []bool{true, false, false, true, false}
	for i, c := range []struct {
		k      int
		shards []string
		have   []bool
		err    api.Errno
	}{
		{3, l, allOf(4), api.ErrArg}, {3, l, allOf(6), api.ErrArg}, {3, l, nil, api.ErrArg}, {3, nil, allOf(5), api.ErrArg},
		{3, l[:4], few, api.ErrArg}, {3, l, few[:2], api.ErrArg},
		{0, l, allOf(5), api.ErrArg}, {-1, l, allOf(5), api.ErrArg}, {6, l, allOf(5), api.ErrArg}, {6, l, few, api.ErrArg},
		{math.MaxInt, l, allOf(5), api.ErrArg}, {math.MinInt, l, allOf(5), api.ErrArg}, {math.MinInt + 4, l, few, api.ErrArg},
		{1, nil, nil, api.ErrArg}, {0, nil, nil, api.ErrArg},
		{1, make([]string, 256), allOf(256), api.ErrArg}, {256, make([]string, 256), make([]bool, 256), api.ErrArg},
		{3, with(0, "abc"), allOf(5), api.ErrArg}, {3, with(2, "abcde"), allOf(5), api.ErrArg}, {3, with(4, ""), allOf(5), api.ErrArg},
		{3, with(3, "abc"), few, api.ErrArg}, {3, with(0, ""), few, api.ErrArg},
		{3, with(1, "abc"), few, api.ErrFew}, {3, l, few, api.ErrFew}, {3, l, make([]bool, 5), api.ErrFew},
		{5, l, []bool{true, true, true, true, false}, api.ErrFew}, {1, l, make([]bool, 5), api.ErrFew},
	} {
		if got, err := rs.Decode(c.k, c.shards, c.have); err != c.err || len(got) != 0 {
			t.Errorf("Decode, case %d: %q, %d", i, got, err)
		}
		for _, n := range []int{0, 4, -1, 5, math.MaxInt, math.MinInt} {
			if s, err := rs.Repair(c.k, c.shards, c.have, n); err != c.err || s != "" {
				t.Errorf("Repair, case %d, shard %d: %q, %d", i, n, s, err)
			}
		}
	}
}

func TestRepairNoShard(t *testing.T) { // P5.3, R3
	for _, c := range [][2]int{{1, 0}, {3, 2}, {255, 0}, {1, 254}} {
		codeword := written(someTexts(c[0], 2), c[1])
		for _, n := range []int{-1, c[0] + c[1], c[0] + c[1] + 1, 256, math.MinInt, math.MaxInt} {
			if s, err := rs.Repair(c[0], codeword, allOf(len(codeword)), n); err != api.ErrArg || s != "" {
				t.Errorf("%v, shard %d: %q, %d", c, n, s, err)
			}
		}
	}
}

func TestDelta(t *testing.T) { // P5.3
	for _, c := range somePairs() {
		k, m := c[0], c[1]
		data, fresh := someTexts(k, 3), someTexts(k+1, 3)
		codeword := written(data, m)
		for n := 0; n < k; n += 1 + k/5 {
			got, err := rs.Delta(codeword, k, n, fresh[n])
			data[n] = fresh[n]
			if err != api.OK || !slices.Equal(got, written(data, m)) {
				t.Fatalf("%v, shard %d: %q, %d", c, n, got, err)
			}
			codeword = got
		}
		if got, err := rs.Delta(codeword, k, k-1, codeword[k-1]); err != api.OK || !slices.Equal(got, codeword) {
			t.Errorf("%v, the same again: %q, %d", c, got, err)
		}
	}
}

func TestDeltaWrong(t *testing.T) { // P5.3, R3
	l := written(someTexts(3, 4), 2)
	bad := slices.Clone(l)
	bad[4] = "junk"
	unlike := slices.Clone(l)
	unlike[1] = "abc"
	for i, c := range []struct {
		shards []string
		k, n   int
		data   string
	}{
		{bad, 3, 0, "abcd"}, {unlike, 3, 1, "abcd"}, {unlike, 3, 1, "abc"}, {l, 2, 0, "abcd"}, {l, 4, 0, "abcd"}, {l[:2], 3, 0, "abcd"},
		{nil, 1, 0, ""}, {nil, 0, 0, ""}, {l, 0, 0, "abcd"}, {l, -1, 0, "abcd"}, {l, 6, 5, "abcd"},
		{l, math.MaxInt, 0, "abcd"}, {l, math.MinInt, 0, "abcd"},
		{l, 3, 3, "abcd"}, {l, 3, 4, "abcd"}, {l, 3, 5, "abcd"}, {l, 3, -1, "abcd"}, {l, 3, math.MaxInt, "abcd"}, {l, 3, math.MinInt, "abcd"},
		{l, 3, 0, "abc"}, {l, 3, 2, "abcde"}, {l, 3, 0, ""}, {l[:3], 3, 0, "abc"},
		{make([]string, 256), 256, 0, ""},
	} {
		if got, err := rs.Delta(c.shards, c.k, c.n, c.data); err != api.ErrArg || len(got) != 0 {
			t.Errorf("case %d: %q, %d", i, got, err)
		}
	}
}

func TestNothingSharedNorChanged(t *testing.T) { // R5, R6
	data := make([]string, 3, 10)
	copy(data, someTexts(3, 4))
	keep := slices.Clone(data)
	codeword, _ := rs.Encode(data, 2)
	again, _ := rs.Encode(data, 2)
	if !slices.Equal(codeword, again) || !slices.Equal(data[:10], append(slices.Clone(keep), make([]string, 7)...)) {
		t.Error("Encode changes what it is given")
	}
	whole := slices.Clone(codeword)
	codeword[0] = "mine"
	if data[0] != keep[0] || again[0] != keep[0] {
		t.Error("Encode shares what it answers")
	}
	codeword[0] = keep[0]

	changed, _ := rs.Delta(codeword, 3, 0, "abcd")
	if !slices.Equal(codeword, whole) || changed[0] != "abcd" {
		t.Error("Delta changes what it is given")
	}
	changed[1] = "mine"
	if codeword[1] != whole[1] {
		t.Error("Delta shares what it answers")
	}

	have := []bool{true, false, true, true, true}
	haveToo := slices.Clone(have)
	got, _ := rs.Decode(3, codeword, have)
	got[0], got[1], got[2] = "mine", "mine", "mine"
	again, _ = rs.Decode(3, codeword, have)
	if !slices.Equal(codeword, whole) || !slices.Equal(have, haveToo) || !slices.Equal(again, keep) {
		t.Error("Decode changes or shares what it is given")
	}
	if s, _ := rs.Repair(3, codeword, have, 1); s != keep[1] || !slices.Equal(codeword, whole) || !slices.Equal(have, haveToo) {
		t.Error("Repair changes what it is given")
	}
}
