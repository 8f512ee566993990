package gen_test

import (
	"math"
	"slices"
	"strings"
	"testing"

	"sheetpile/api"
	"sheetpile/gen"
	"sheetpile/gf"
	"sheetpile/mat"
)

// noPairs are k and m that may not be.
func noPairs() [][2]int {
	return [][2]int{
		{0, 0}, {0, 1}, {0, 255}, {-1, 1}, {-1, 256}, {-255, 1},
		{1, -1}, {2, -1}, {255, -1}, {256, -1}, {300, -100},
		{255, 1}, {1, 255}, {128, 128}, {256, 0}, {0, 256}, {254, 2},
		{math.MaxInt, 0}, {1, math.MaxInt}, {math.MaxInt, 1}, {math.MaxInt, math.MaxInt},
		{math.MinInt, 0}, {1, math.MinInt}, {math.MinInt, math.MinInt}, {math.MaxInt, math.MinInt}, {math.MinInt, math.MaxInt},
		{1 << 62, 1 << 62}, {1 << 32, 1}, {1<<32 + 1, 1}, {1, 1 << 32},
	}
}

// written is P4.1's words: the Identity's rows, and the inverses behind them.
func written(k, m int) []string {
	var rows []string
	for i := range k {
		rows = append(rows, strings.Repeat("\x00", i)+"\x01"+strings.Repeat("\x00", k-1-i))
	}
	for i := range m {
		var row []byte
		for j := range k {
			x := 1
			for gf.Mul(byte(x), byte((k+i)^j)) != 1 {
				x++
			}
			row = append(row, byte(x))
		}
		rows = append(rows, string(row))
	}
	return rows
}

// eachPick hands on the lists of k of the n first numbers, rising.
func eachPick(k, n int, yield func([]int)) {
	var more func(have []int, from int)
	more = func(have []int, from int) {
		if len(have) == k {
			yield(slices.Clone(have))
			return
		}
		for i := from; i < n; i++ {
			more(append(have, i), i+1)
		}
	}
	more(nil, 0)
}

func upTo(n int) []int {
	var l []int
	for i := range n {
		l = append(l, i)
	}
	return l
}

func TestMay(t *testing.T) { // P4.1
	for k := -3; k <= 260; k++ {
		for m := -3; m <= 260; m++ {
			want := k >= 1 && m >= 0 && k+m <= 255
			if gen.May(k, m) != want {
				t.Errorf("May(%d, %d): not %t", k, m, want)
			}
		}
	}
	for _, c := range noPairs() {
		if gen.May(c[0], c[1]) {
			t.Errorf("May(%d, %d)", c[0], c[1])
		}
	}
}

func TestMakeByHand(t *testing.T) { // P4.1
	for _, c := range []struct {
		k, m int
		want []string
	}{
		{1, 0, []string{"\x01"}},
		{1, 1, []string{"\x01", "\x01"}},
		{1, 2, []string{"\x01", "\x01", "\x8e"}},
		{2, 0, []string{"\x01\x00", "\x00\x01"}},
		{2, 1, []string{"\x01\x00", "\x00\x01", "\x8e\xf4"}},
		{2, 2, []string{"\x01\x00", "\x00\x01", "\x8e\xf4", "\xf4\x8e"}},
	} {
		if got, err := gen.Make(c.k, c.m); !slices.Equal(got, c.want) || err != api.OK {
			t.Errorf("Make(%d, %d): %q, error %d", c.k, c.m, got, err)
		}
	}
}

func TestMake(t *testing.T) { // P4.1
	pairs := [][2]int{{255, 0}, {254, 1}, {1, 254}, {128, 127}, {127, 128}, {250, 5}, {5, 250}, {64, 64}, {10, 6}}
	for k := 1; k < 9; k++ {
		for m := range 9 {
			pairs = append(pairs, [2]int{k, m})
		}
	}
	for _, c := range pairs {
		if got, err := gen.Make(c[0], c[1]); !slices.Equal(got, written(c[0], c[1])) || err != api.OK {
			t.Errorf("Make(%d, %d): %d rows, error %d", c[0], c[1], len(got), err)
		}
	}
}

func TestMakeOfNoPair(t *testing.T) { // P4.1, R3
	for _, c := range noPairs() {
		if got, err := gen.Make(c[0], c[1]); len(got) != 0 || err != api.ErrArg {
			t.Errorf("Make(%d, %d): %d rows, error %d", c[0], c[1], len(got), err)
		}
	}
}

// decoderHolds asks whether the decoder undoes the rows of which it was made.
func decoderHolds(t *testing.T, k, m int, have []int) {
	t.Helper()
	d, err := gen.Decoder(k, m, have)
	if err != api.OK || len(d) != k {
		t.Errorf("Decoder(%d, %d, %v): %d rows, error %d", k, m, have, len(d), err)
		return
	}
	rows := written(k, m)
	var picked []string
	for _, row := range have[:k] {
		picked = append(picked, rows[row])
	}
	for _, order := range [][2][]string{{d, picked}, {picked, d}} {
		if got, err := mat.Mul(order[0], order[1]); !slices.Equal(got, written(k, 0)) || err != api.OK {
			t.Errorf("Decoder(%d, %d, %v): not the inverse, error %d", k, m, have, err)
		}
	}
}

func TestDecoderOfAnyRows(t *testing.T) { // P4.2, P4.3
	for _, c := range [][2]int{{1, 0}, {1, 1}, {1, 5}, {2, 0}, {2, 1}, {2, 2}, {3, 3}, {4, 2}, {5, 0}, {5, 4}, {7, 1}} {
		eachPick(c[0], c[0]+c[1], func(have []int) { decoderHolds(t, c[0], c[1], have) })
	}
}

func TestDecoderOfTheFirstRows(t *testing.T) { // P4.2
	for k := 1; k < 8; k++ {
		if got, err := gen.Decoder(k, 3, upTo(k)); !slices.Equal(got, written(k, 0)) || err != api.OK {
			t.Errorf("Decoder(%d, 3): %q, error %d", k, got, err)
		}
	}
}

func TestDecoderOfMoreThanItNeeds(t *testing.T) { // P4.2
	for _, have := range [][]int{{0, 1, 2, 3, 4, 5}, {1, 2, 3, 4}, {0, 2, 4, 5}, {2, 3, 4, 5}} {
		more, err := gen.Decoder(3, 3, have)
		least, _ := gen.Decoder(3, 3, have[:3])
		if !slices.Equal(more, least) || err != api.OK {
			t.Errorf("Decoder(3, 3, %v): %q, error %d", have, more, err)
		}
		decoderHolds(t, 3, 3, have)
	}
}

func TestDecoderOfTheGreatest(t *testing.T) { // P4.2, P4.3
	decoderHolds(t, 255, 0, upTo(255))
	decoderHolds(t, 254, 1, upTo(255)[1:])
	decoderHolds(t, 127, 128, upTo(255)[128:])
	decoderHolds(t, 1, 254, []int{254})
	decoderHolds(t, 1, 254, upTo(255)[200:])
	var even []int
	for i := 0; i < 255; i += 2 {
		even = append(even, i)
	}
	decoderHolds(t, 128, 127, even)
}

func TestDecoderOfRowsNamedWrongly(t *testing.T) { // P4.2, R2, R3
	for _, c := range []struct {
		k, m int
		have []int
	}{
		{2, 1, []int{1, 0}},
		{2, 1, []int{1, 1}},
		{2, 1, []int{0, 0}},
		{2, 1, []int{1, 3}},
		{2, 1, []int{-1, 1}},
		{2, 1, []int{0, -1}},
		{2, 1, []int{0, 1, 1}},
		{2, 1, []int{0, 1, 3}},
		{2, 1, []int{0, 1, 0}},
		{2, 1, []int{0, 1, 2, 3}},
		{2, 1, []int{3}},
		{2, 1, []int{-1}},
		{2, 0, []int{1, 2}},
		{3, 2, []int{4, 3}},
		{3, 2, []int{5}},
		{2, 1, []int{0, math.MaxInt}},
		{2, 1, []int{math.MinInt, 0}},
		{2, 1, []int{0, 1<<32 + 1}},
		{255, 0, upTo(256)},
	} {
		if got, err := gen.Decoder(c.k, c.m, c.have); len(got) != 0 || err != api.ErrArg {
			t.Errorf("Decoder(%d, %d, %v): %q, error %d", c.k, c.m, c.have, got, err)
		}
	}
}

func TestDecoderOfTooFewRows(t *testing.T) { // P4.2, R3
	for _, c := range []struct {
		k, m int
		have []int
	}{
		{1, 0, nil},
		{1, 0, []int{}},
		{2, 1, nil},
		{2, 1, []int{0}},
		{2, 1, []int{2}},
		{3, 3, []int{0, 5}},
		{255, 0, upTo(254)},
		{254, 1, upTo(255)[2:]},
	} {
		if got, err := gen.Decoder(c.k, c.m, c.have); len(got) != 0 || err != api.ErrFew {
			t.Errorf("Decoder(%d, %d, %v): %q, error %d", c.k, c.m, c.have, got, err)
		}
	}
}

func TestDecoderOfNoPair(t *testing.T) { // P4.2, R2, R3
	for _, c := range noPairs() {
		for _, have := range [][]int{nil, {0}, {0, 1}, {1, 0}, upTo(255), upTo(300)} {
			if got, err := gen.Decoder(c[0], c[1], have); len(got) != 0 || err != api.ErrArg {
				t.Errorf("Decoder(%d, %d, %v): %d rows, error %d", c[0], c[1], have, len(got), err)
			}
		}
	}
}

func TestNothingIsChangedOrShared(t *testing.T) { // R5, R6
	have := []int{1, 3, 4, 5}
	was := slices.Clone(have)
	for i, call := range []func() ([]string, api.Errno){
		func() ([]string, api.Errno) { return gen.Make(3, 3) },
		func() ([]string, api.Errno) { return gen.Decoder(3, 3, have) },
	} {
		first, err := call()
		copied := slices.Clone(first)
		for j := range first {
			first[j] = "spoilt"
		}
		if again, errAgain := call(); err != api.OK || errAgain != api.OK || !slices.Equal(again, copied) {
			t.Errorf("call %d: not the same again", i)
		}
	}
	if !slices.Equal(have, was) {
		t.Error("have was changed")
	}
}
