package stripe_test

import (
	"math"
	"slices"
	"strings"
	"testing"

	"sheetpile/api"
	"sheetpile/conf"
	"sheetpile/rs"
	"sheetpile/stripe"
)

// layouts have K of 1 and greater, and shards at their bounds.
func layouts() []api.Conf {
	return []api.Conf{
		{K: 1, M: 1, Shard: 8, Stripes: 1, Slots: 1},
		{K: 1, M: 3, Shard: 9, Stripes: 1000, Slots: 16},
		{K: 2, M: 1, Shard: 8, Stripes: 4, Slots: 2},
		{K: 2, M: 2, Shard: 11, Stripes: 4, Slots: 2},
		{K: 3, M: 2, Shard: 8, Stripes: 7, Slots: 3},
		{K: 4, M: 3, Shard: 16, Stripes: 7, Slots: 3},
		{K: 6, M: 1, Shard: 13, Stripes: 2, Slots: 1},
	}
}

// great are layouts that stand at the bounds of all that a layout may have.
func great() []api.Conf {
	return []api.Conf{
		{K: 1, M: 254, Shard: 1024, Stripes: 1, Slots: 1},
		{K: 3, M: 2, Shard: 1024, Stripes: 1, Slots: 1},
		{K: 4, M: 2, Shard: 1000, Stripes: 1, Slots: 1},
		{K: 250, M: 5, Shard: 16, Stripes: 1, Slots: 1},
		{K: 254, M: 1, Shard: 15, Stripes: 1, Slots: 1},
		{K: 128, M: 127, Shard: 31, Stripes: 1, Slots: 1},
	}
}

// wrong are layouts that may not be, each by one thing alone.
func wrong() []api.Conf {
	return []api.Conf{
		{},
		{K: 0, M: 1, Shard: 8, Stripes: 1, Slots: 1},
		{K: -1, M: 1, Shard: 8, Stripes: 1, Slots: 1},
		{K: 1, M: 0, Shard: 8, Stripes: 1, Slots: 1},
		{K: 1, M: -1, Shard: 8, Stripes: 1, Slots: 1},
		{K: 1, M: 255, Shard: 8, Stripes: 1, Slots: 1},
		{K: 255, M: 1, Shard: 8, Stripes: 1, Slots: 1},
		{K: 1, M: 1, Shard: 7, Stripes: 1, Slots: 1},
		{K: 1, M: 1, Shard: 0, Stripes: 1, Slots: 1},
		{K: 1, M: 1, Shard: -8, Stripes: 1, Slots: 1},
		{K: 1, M: 1, Shard: 1025, Stripes: 1, Slots: 1},
		{K: 4, M: 1, Shard: 1001, Stripes: 1, Slots: 1},
		{K: 1, M: 1, Shard: 8, Stripes: 0, Slots: 1},
		{K: 1, M: 1, Shard: 8, Stripes: 1001, Slots: 1},
		{K: 1, M: 1, Shard: 8, Stripes: 1, Slots: 0},
		{K: 1, M: 1, Shard: 8, Stripes: 1, Slots: 17},
		{K: math.MaxInt, M: math.MaxInt, Shard: math.MaxInt, Stripes: math.MaxInt, Slots: math.MaxInt},
		{K: math.MinInt, M: math.MinInt, Shard: math.MinInt, Stripes: math.MinInt, Slots: math.MinInt},
	}
}

// room is how many bytes the shards of data have together.
func room(c api.Conf) int { return c.K * c.Shard }

// text is so many bytes, of which some are 0, the last one too where that is
// asked for.
func text(length int, zeroLast bool) string {
	b := make([]byte, length)
	for i := range b {
		b[i] = byte(i*i*7 + i*31 + 5*length)
	}
	if length > 0 {
		b[length-1] = byte(length) | 1
		if zeroLast {
			b[length-1] = 0
		}
	}
	return string(b)
}

// dataOf is the chapter's words: a length of 4 bytes, the text, and bytes 0,
// told byte by byte.
func dataOf(c api.Conf, length int, data string) []string {
	whole := make([]byte, room(c))
	for i := range 4 {
		whole[i] = byte(length >> (8 * i))
	}
	for i := range len(data) {
		whole[4+i] = data[i]
	}
	shards := make([]string, c.K)
	for i, b := range whole {
		shards[i/c.Shard] += string([]byte{b})
	}
	return shards
}

// codeword is the shards of data with those of parity behind them.
func codeword(t *testing.T, c api.Conf, data []string) []string {
	t.Helper()
	shards, err := rs.Encode(data, c.M)
	if err != api.OK {
		t.Fatalf("rs.Encode(%+v): %d", c, err)
	}
	return shards
}

// all is that each one of so many is there.
func all(n int) []bool {
	have := make([]bool, n)
	for i := range have {
		have[i] = true
	}
	return have
}

// refuse looks that Join tells an error, and no text.
func refuse(t *testing.T, what string, want api.Errno, c api.Conf, shards []string, have []bool) {
	t.Helper()
	if s, err := stripe.Join(c, shards, have); s != "" || err != want {
		t.Errorf("%s: Join(%+v, %.100q, %v): %.60q, %d, not %d", what, c, shards, have, s, err, want)
	}
}

// accept looks that Join tells the text.
func accept(t *testing.T, what string, want string, c api.Conf, shards []string, have []bool) {
	t.Helper()
	if s, err := stripe.Join(c, shards, have); s != want || err != api.OK {
		t.Errorf("%s: Join(%+v, %.100q, %v): %.60q, %d", what, c, shards, have, s, err)
	}
}

func TestSplitByHand(t *testing.T) { // P13.1
	for _, x := range []struct {
		c    api.Conf
		data string
		want []string // those of data, and, of K 1, those of parity: 1 and 0x8E times it
	}{
		{api.Conf{K: 1, M: 1, Shard: 8, Stripes: 1, Slots: 1}, "ab", []string{"\x02\x00\x00\x00ab\x00\x00", "\x02\x00\x00\x00ab\x00\x00"}},
		{api.Conf{K: 1, M: 1, Shard: 8, Stripes: 1, Slots: 1}, "", []string{"\x00\x00\x00\x00\x00\x00\x00\x00", "\x00\x00\x00\x00\x00\x00\x00\x00"}},
		{api.Conf{K: 1, M: 2, Shard: 8, Stripes: 1, Slots: 1}, "abcd", []string{"\x04\x00\x00\x00abcd", "\x04\x00\x00\x00abcd", "\x02\x00\x00\x00\xBE\x31\xBF\x32"}},
		{api.Conf{K: 2, M: 1, Shard: 8, Stripes: 4, Slots: 2}, "abc", []string{"\x03\x00\x00\x00abc\x00", "\x00\x00\x00\x00\x00\x00\x00\x00"}},
		{api.Conf{K: 2, M: 1, Shard: 8, Stripes: 4, Slots: 2}, "abcd", []string{"\x04\x00\x00\x00abcd", "\x00\x00\x00\x00\x00\x00\x00\x00"}},
		{api.Conf{K: 2, M: 1, Shard: 8, Stripes: 4, Slots: 2}, "abcde", []string{"\x05\x00\x00\x00abcd", "e\x00\x00\x00\x00\x00\x00\x00"}},
		{api.Conf{K: 2, M: 1, Shard: 8, Stripes: 4, Slots: 2}, "abcdefghijkl", []string{"\x0C\x00\x00\x00abcd", "efghijkl"}},
		{api.Conf{K: 3, M: 2, Shard: 8, Stripes: 1, Slots: 1}, "hello, world", []string{"\x0C\x00\x00\x00hell", "o, world", "\x00\x00\x00\x00\x00\x00\x00\x00"}},
	} {
		shards, err := stripe.Split(x.c, x.data)
		if err != api.OK || len(shards) != x.c.K+x.c.M || !slices.Equal(shards[:len(x.want)], x.want) || !rs.Is(x.c.K, shards) {
			t.Errorf("Split(%+v, %q): %q, %d", x.c, x.data, shards, err)
		}
	}
	c := api.Conf{K: 3, M: 2, Shard: 1024, Stripes: 1, Slots: 1}
	shards, err := stripe.Split(c, strings.Repeat("a", 0x0201))
	if err != api.OK || shards[0] != "\x01\x02\x00\x00"+strings.Repeat("a", 0x0201)+strings.Repeat("\x00", 1020-0x0201) {
		t.Errorf("Split of a length of two bytes: %.60q, %d", shards, err)
	}
}

// Each length of small layouts meets all the places where a text may end:
// within a shard, at its end, just behind it.
func TestSplitOfEachLength(t *testing.T) { // P13.1, R3, R6
	for _, c := range layouts() {
		for length := range room(c) - 4 + 1 {
			for _, zeroLast := range []bool{false, true} {
				data := text(length, zeroLast)
				want := codeword(t, c, dataOf(c, length, data))
				for range 2 {
					if shards, err := stripe.Split(c, data); !slices.Equal(shards, want) || err != api.OK {
						t.Errorf("Split(%+v, %q): %q, %d", c, data, shards, err)
					}
				}
			}
		}
		for _, more := range []int{1, 2, 3, 4, 5, c.Shard, 4096, 65536} {
			if shards, err := stripe.Split(c, text(room(c)-4+more, false)); len(shards) != 0 || err != api.ErrBig {
				t.Errorf("Split(%+v) of %d bytes too many: %q, %d", c, more, shards, err)
			}
		}
	}
}

func TestSplitOfGreatLayouts(t *testing.T) { // P13.1
	for _, c := range great() {
		capacity := conf.Capacity(c)
		for _, length := range []int{0, 1, c.Shard - 5, c.Shard - 4, min(c.Shard-3, capacity), capacity / 2, capacity - 1, capacity} {
			data := text(length, false)
			shards, err := stripe.Split(c, data)
			if !slices.Equal(shards, codeword(t, c, dataOf(c, length, data))) || err != api.OK {
				t.Errorf("Split(%+v) of %d bytes: %d shards, %d", c, length, len(shards), err)
			}
			accept(t, "all", data, c, shards, all(c.K+c.M))
		}
		if shards, err := stripe.Split(c, text(capacity+1, false)); len(shards) != 0 || err != api.ErrBig {
			t.Errorf("Split(%+v) of one byte too many: %d shards, %d", c, len(shards), err)
		}
	}
}

func TestLayoutsThatMayNotBe(t *testing.T) { // P13.1, P13.2, R1, R2, R3
	for _, c := range wrong() {
		for _, data := range []string{"", "a", "abcd", text(5, false), text(4000, false), text(70000, false)} {
			if shards, err := stripe.Split(c, data); len(shards) != 0 || err != api.ErrArg {
				t.Errorf("Split(%+v) of %d bytes: %.60q, %d", c, len(data), shards, err)
			}
		}
		good := "\x02\x00\x00\x00ab\x00\x00"
		refuse(t, "none", api.ErrArg, c, nil, nil)
		refuse(t, "one", api.ErrArg, c, []string{good}, []bool{true})
		refuse(t, "two", api.ErrArg, c, []string{good, good}, []bool{true, true})
		refuse(t, "few", api.ErrArg, c, []string{good, good}, []bool{false, false})
		refuse(t, "no length", api.ErrArg, c, []string{"", ""}, []bool{true, true})
		refuse(t, "no Split", api.ErrArg, c, []string{"\xFF\xFF\xFF\xFFabcd", good}, []bool{true, true})
	}
}

// marked puts other texts in place of the shards that there are not: they are
// of no moment.
func marked(shards []string, have []bool) []string {
	other := []string{"", "?", "???????", "????????", "\x00\x00\x00\x00\x00\x00\x00\x00", strings.Repeat("?", 5000)}
	left := slices.Clone(shards)
	for i := range left {
		if !have[i] {
			left[i] = other[i%len(other)]
		}
	}
	return left
}

func TestJoinOfWhicheverAreLeft(t *testing.T) { // P13.2, P13.3, R3, R5, R6
	for _, c := range layouts() {
		capacity := conf.Capacity(c)
		for _, length := range []int{0, 1, 3, 4, min(5, capacity), capacity / 2, capacity - 1, capacity} {
			data := text(length, length%2 == 0)
			shards, err := stripe.Split(c, data)
			if err != api.OK {
				t.Fatalf("Split(%+v): %d", c, err)
			}
			for mask := range 1 << (c.K + c.M) {
				have, n := make([]bool, c.K+c.M), 0
				for i := range have {
					if mask>>i&1 == 1 {
						have[i], n = true, n+1
					}
				}
				left := marked(shards, have)
				given, givenHave := slices.Clone(left), slices.Clone(have)
				for range 2 {
					if n < c.K {
						refuse(t, "few", api.ErrFew, c, left, have)
					} else {
						accept(t, "enough", data, c, left, have)
					}
				}
				if !slices.Equal(left, given) || !slices.Equal(have, givenHave) {
					t.Fatalf("what Join(%+v) was given is changed", c)
				}
			}
		}
	}
}

func TestJoinOfGreatLayouts(t *testing.T) { // P13.2, P13.3
	for _, c := range great() {
		disks := c.K + c.M
		data := text(conf.Capacity(c)-1, false)
		shards, err := stripe.Split(c, data)
		if err != api.OK {
			t.Fatalf("Split(%+v): %d", c, err)
		}
		for _, step := range []int{1, 2, 7, 254} {
			have := make([]bool, disks)
			left := 0
			for i := 0; left < c.K; i++ {
				at := (i*step + i/disks + step) % disks
				if !have[at] {
					have[at], left = true, left+1
				}
			}
			accept(t, "just K", data, c, marked(shards, have), have)
			have[slices.Index(have, true)] = false
			refuse(t, "one fewer", api.ErrFew, c, marked(shards, have), have)
		}
		refuse(t, "none", api.ErrFew, c, shards, make([]bool, disks))
	}
}

// Those behind the first K that there are, are of no moment, but for their
// length.
func TestJoinLeavesThoseBehindAlone(t *testing.T) { // P13.2
	for _, c := range layouts() {
		shards, _ := stripe.Split(c, "abc")
		have := all(c.K + c.M)
		for i := c.K; i < len(shards); i++ {
			left := slices.Clone(shards)
			left[i] = strings.Repeat("?", c.Shard)
			accept(t, "another one behind", "abc", c, left, have)
			left[i] += "?"
			refuse(t, "a longer one behind", api.ErrArg, c, left, have)
		}
	}
}

func TestJoinOfWrongNumbers(t *testing.T) { // P13.2, R1, R3
	for _, c := range layouts() {
		shards, _ := stripe.Split(c, "abc")
		disks := c.K + c.M
		for n := range 2*disks + 3 {
			if n == disks {
				continue
			}
			list := make([]string, n)
			for i := range list {
				list[i] = shards[i%disks]
			}
			refuse(t, "another number of shards", api.ErrArg, c, list, all(n))
			refuse(t, "another number of shards, none there", api.ErrArg, c, list, make([]bool, n))
			refuse(t, "another number of shards alone", api.ErrArg, c, list, all(disks))
			refuse(t, "another number of entries", api.ErrArg, c, shards, all(n))
			refuse(t, "another number of entries, none there", api.ErrArg, c, shards, make([]bool, n))
			most := make([]bool, n)
			copy(most, all(min(n, c.K)))
			refuse(t, "another number of entries, the first K there", api.ErrArg, c, shards, most)
		}
		refuse(t, "nothing", api.ErrArg, c, nil, nil)
		refuse(t, "no entries", api.ErrArg, c, shards, nil)
		refuse(t, "no shards", api.ErrArg, c, nil, all(disks))
		refuse(t, "very many", api.ErrArg, c, make([]string, 300), all(300))
	}
}

func TestJoinOfWrongLengths(t *testing.T) { // P13.2, R1, R3
	for _, c := range layouts() {
		shards, _ := stripe.Split(c, "abc")
		disks := c.K + c.M
		for _, length := range []int{0, 1, 3, 4, 7, 8, 9, c.Shard - 1, c.Shard + 1, 2 * c.Shard, 5000} {
			if length == c.Shard {
				continue
			}
			odd := strings.Repeat("\x00", length)
			for i := range disks {
				left := slices.Clone(shards)
				left[i] = odd
				refuse(t, "one of another length", api.ErrArg, c, left, all(disks))
				alone := make([]bool, disks)
				alone[i] = true
				// Fewer than K too, but of K 1: the length is told first.
				refuse(t, "of another length alone", api.ErrArg, c, left, alone)
				alone[i] = false
				refuse(t, "none there", api.ErrFew, c, left, alone)
				have := all(disks)
				have[i] = false
				accept(t, "of another length, not there", "abc", c, left, have)
			}
			same := slices.Repeat([]string{odd}, disks)
			refuse(t, "all of one other length", api.ErrArg, c, same, all(disks))
			have := make([]bool, disks)
			copy(have, all(c.K))
			refuse(t, "K of one other length", api.ErrArg, c, same, have)
			have[c.K-1] = false
			if c.K > 1 {
				refuse(t, "fewer than K of one other length", api.ErrArg, c, same, have)
			}
		}
	}
}

// decodings are lists of have by which the same data comes from data alone,
// from all shards, and from as many of parity as there may be.
func decodings(c api.Conf) [][]bool {
	disks := c.K + c.M
	first, last := make([]bool, disks), make([]bool, disks)
	for i := range c.K {
		first[i], last[disks-1-i] = true, true
	}
	return [][]bool{first, last, all(disks)}
}

func TestJoinOfNoSplit(t *testing.T) { // P13.2, R2, R3
	for _, c := range layouts() {
		capacity := room(c) - 4
		lengths := []int{capacity + 1, capacity + 2, capacity + 4, capacity + 5, 255, 256, 65535, 65536, 1<<24 - 1, 1 << 24, 1<<31 - 1, 1 << 31, 1<<32 - 1}
		for _, length := range lengths {
			if length <= capacity {
				continue
			}
			for _, data := range []string{"", "abc", text(capacity, false)} {
				shards := codeword(t, c, dataOf(c, length, data))
				for _, have := range decodings(c) {
					refuse(t, "a length above Capacity", api.ErrForm, c, marked(shards, have), have)
				}
			}
		}
		for length := range capacity + 1 {
			data := text(capacity, false)
			shards := codeword(t, c, dataOf(c, length, data))
			for _, have := range decodings(c) {
				if length < capacity {
					refuse(t, "a length below the text's", api.ErrForm, c, marked(shards, have), have)
				} else {
					accept(t, "the greatest length", data, c, marked(shards, have), have)
				}
			}
		}
	}
}

// One byte behind the text, wherever and whatever, tells that it is no Split.
func TestJoinOfOneByteBehind(t *testing.T) { // P13.2
	for _, c := range layouts() {
		capacity := room(c) - 4
		for _, length := range []int{0, 1, 4, capacity / 2, capacity - 1} {
			for at := range capacity {
				for _, b := range []byte{1, ' ', '0', 128, 255} {
					data := []byte(strings.Repeat("a", length) + strings.Repeat("\x00", capacity-length))
					data[at] = b
					shards := codeword(t, c, dataOf(c, length, string(data)))
					have := decodings(c)[at%3]
					if at < length {
						accept(t, "a byte within", string(data[:length]), c, marked(shards, have), have)
					} else {
						refuse(t, "a byte behind", api.ErrForm, c, marked(shards, have), have)
					}
				}
			}
		}
	}
}

// A text may have bytes 0 at its end: a longer length is another text.
func TestJoinKeepsBytesZero(t *testing.T) { // P13.1, P13.2
	for _, c := range layouts() {
		for length := range room(c) - 4 + 1 {
			data := strings.Repeat("\x00", length)
			shards, err := stripe.Split(c, data)
			if err != api.OK {
				t.Fatalf("Split(%+v): %d", c, err)
			}
			accept(t, "bytes 0", data, c, shards, all(c.K+c.M))
		}
	}
}

// Several faults at once: the one that is named first is told.
func TestJoinTellsTheFirstError(t *testing.T) { // P13.2, R2
	c := api.Conf{K: 3, M: 2, Shard: 8, Stripes: 1, Slots: 1}
	bad := codeword(t, c, dataOf(c, 21, ""))
	few := []bool{true, true, false, false, false}
	refuse(t, "a layout that may not be, all else too", api.ErrArg, api.Conf{}, bad[:1], few)
	refuse(t, "four shards, few, no Split", api.ErrArg, c, bad[:4], few[:4])
	refuse(t, "six shards, few, no Split", api.ErrArg, c, append(slices.Clone(bad), bad[0]), append(slices.Clone(few), false))
	refuse(t, "four entries, few, no Split", api.ErrArg, c, bad, few[:4])
	refuse(t, "two entries, few, no Split", api.ErrArg, c, bad, few[:2])
	refuse(t, "six entries, few, no Split", api.ErrArg, c, bad, append(slices.Clone(few), false))
	refuse(t, "lengths, few, no Split", api.ErrArg, c, []string{bad[0], bad[1] + "?", "", "", ""}, few)
	refuse(t, "one other length, few, no Split", api.ErrArg, c, []string{bad[0] + "?", bad[1] + "?", "", "", ""}, few)
	refuse(t, "lengths, no Split", api.ErrArg, c, []string{bad[0], bad[1], bad[2], bad[3], bad[4][:7]}, all(5))
	refuse(t, "few, no Split", api.ErrFew, c, bad, few)
	refuse(t, "no Split", api.ErrForm, c, bad, all(5))
}

// Whatever the shards are, codeword or not, Join answers what decoding tells.
func TestJoinOfWhatever(t *testing.T) { // P13.2, R1
	c := api.Conf{K: 2, M: 2, Shard: 8, Stripes: 1, Slots: 1}
	pieces := []string{
		"\x00\x00\x00\x00\x00\x00\x00\x00", "\x0C\x00\x00\x00abcd", "\x0D\x00\x00\x00abcd", "\x04\x00\x00\x00abcd",
		"\x03\x00\x00\x00abcd", "\xFF\xFF\xFF\xFF\xFF\xFF\xFF\xFF", "efgh\x00\x00\x00\x00",
	}
	for mask := range 16 {
		have := []bool{mask&1 > 0, mask&2 > 0, mask&4 > 0, mask&8 > 0}
		for n := range 7 * 7 * 7 * 7 {
			shards := []string{pieces[n%7], pieces[n/7%7], pieces[n/49%7], pieces[n/343]}
			data, err := rs.Decode(2, shards, have)
			if err != api.OK {
				refuse(t, "few", err, c, shards, have)
				continue
			}
			whole := data[0] + data[1]
			length := int(whole[0]) | int(whole[1])<<8 | int(whole[2])<<16 | int(whole[3])<<24
			if length <= 12 && slices.Equal(dataOf(c, length, whole[4:4+length]), data) {
				accept(t, "a Split", whole[4:4+length], c, shards, have)
			} else {
				refuse(t, "no Split", api.ErrForm, c, shards, have)
			}
		}
	}
}
