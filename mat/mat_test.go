package mat_test

import (
	"math"
	"slices"
	"strings"
	"testing"

	"sheetpile/api"
	"sheetpile/gf"
	"sheetpile/mat"
)

// table has rows and columns of numbers that look like no order, but are the
// same in each run.
func table(rows, columns int, seed uint32) []string {
	a := make([]string, rows)
	for i := range a {
		row := make([]byte, columns)
		for j := range row {
			seed = seed*1664525 + 1013904223
			row[j] = byte(seed >> 24)
		}
		a[i] = string(row)
	}
	return a
}

// triangle has 0 on one side of its diagonal, and never there, so that it can
// be inverted.
func triangle(n int, upper bool, seed uint32) []string {
	a := table(n, n, seed)
	for i, row := range a {
		b := []byte(row)
		for j := range b {
			if i == j {
				b[j] |= 1
			} else if (j > i) != upper {
				b[j] = 0
			}
		}
		a[i] = string(b)
	}
	return a
}

// product is P3.2's words, column by column.
func product(a, b []string) []string {
	out := make([]string, len(a))
	for i := range a {
		row := make([]byte, len(b[0]))
		for j := range row {
			for l := range b {
				row[j] = gf.Add(row[j], gf.Mul(a[i][l], b[l][j]))
			}
		}
		out[i] = string(row)
	}
	return out
}

// ones is the Identity, written by another way than the program's.
func ones(n int) []string {
	var out []string
	for i := range n {
		out = append(out, strings.Repeat("\x00", i)+"\x01"+strings.Repeat("\x00", n-1-i))
	}
	return out
}

// turned has the rows in the opposite order.
func turned(a []string) []string {
	b := slices.Clone(a)
	slices.Reverse(b)
	return b
}

// noTables are those that may not be.
func noTables() [][]string {
	return [][]string{
		nil,
		{},
		{""},
		{"", ""},
		{"", "a"},
		{"a", ""},
		{"a", "ab"},
		{"ab", "a"},
		{"abc", "abc", "ab"},
		{"abc", "abcd", "abc"},
		{"é", "e"},
		table(256, 1, 1),
		table(1, 256, 1),
		table(256, 256, 1),
		table(2, 1000, 1),
		make([]string, 255),
		make([]string, 256),
		append(table(254, 255, 1), table(1, 254, 1)...),
		append(table(254, 254, 1), table(1, 255, 1)...),
	}
}

func TestMay(t *testing.T) { // P3.1
	for i, a := range [][]string{
		{"a"},
		{"\x00"},
		{"é"},
		{"ab", "cd"},
		{"a", "b", "c"},
		{"abc"},
		table(255, 1, 1),
		table(1, 255, 1),
		table(255, 255, 1),
		table(254, 253, 1),
	} {
		if !mat.May(a) {
			t.Errorf("case %d: may not be", i)
		}
	}
	for i, a := range noTables() {
		if mat.May(a) {
			t.Errorf("wrong case %d: may be", i)
		}
	}
}

func TestIdentity(t *testing.T) { // P3.1
	for n := 1; n <= 255; n++ {
		if got, err := mat.Identity(n); !slices.Equal(got, ones(n)) || err != api.OK {
			t.Errorf("Identity(%d): %q, error %d", n, got, err)
		}
	}
	for _, n := range []int{0, -1, -255, 256, 511, math.MaxInt32 + 2, math.MinInt32, math.MaxInt, math.MinInt} {
		if got, err := mat.Identity(n); len(got) != 0 || err != api.ErrArg {
			t.Errorf("Identity(%d): %d rows, error %d", n, len(got), err)
		}
	}
}

func TestPick(t *testing.T) { // P3.1
	a := []string{"ab", "cd", "ef"}
	big := table(255, 3, 2)
	last := slices.Repeat([]int{254}, 255)
	for i, c := range []struct {
		a    []string
		rows []int
		want []string
	}{
		{a, []int{0}, []string{"ab"}},
		{a, []int{2}, []string{"ef"}},
		{a, []int{0, 1, 2}, a},
		{a, []int{2, 0}, []string{"ef", "ab"}},
		{a, []int{1, 1, 1, 1}, []string{"cd", "cd", "cd", "cd"}},
		{big, last, slices.Repeat(big[254:], 255)},
		{[]string{"x"}, make([]int, 255), slices.Repeat([]string{"x"}, 255)},
	} {
		if got, err := mat.Pick(c.a, c.rows); !slices.Equal(got, c.want) || err != api.OK {
			t.Errorf("case %d: %q, error %d", i, got, err)
		}
	}
}

func TestPickOfNoRows(t *testing.T) { // P3.1, R3
	a := []string{"ab", "cd", "ef"}
	for _, rows := range [][]int{
		nil, {}, {3}, {-1}, {0, 1, 2, 3}, {3, 0}, {0, -1}, {0, 256}, {math.MaxInt}, {math.MinInt}, {1 << 32}, make([]int, 256), make([]int, 1000),
	} {
		if got, err := mat.Pick(a, rows); len(got) != 0 || err != api.ErrArg {
			t.Errorf("Pick(%v): %q, error %d", rows, got, err)
		}
	}
	for i, wrong := range noTables() {
		if got, err := mat.Pick(wrong, []int{0}); len(got) != 0 || err != api.ErrArg {
			t.Errorf("wrong case %d: %q, error %d", i, got, err)
		}
	}
}

func TestMulByHand(t *testing.T) { // P3.2
	for i, c := range []struct{ a, b, want []string }{
		{[]string{"\x02"}, []string{"\x80"}, []string{"\x1d"}},
		{[]string{"\x00"}, []string{"\xff"}, []string{"\x00"}},
		{[]string{"\x01\x00", "\x00\x01"}, []string{"ab", "cd"}, []string{"ab", "cd"}},
		{[]string{"\x00\x01", "\x01\x00"}, []string{"ab", "cd"}, []string{"cd", "ab"}},
		{[]string{"ab", "cd"}, []string{"\x00\x01", "\x01\x00"}, []string{"ba", "dc"}},
		{[]string{"\x01\x01"}, []string{"a", "a"}, []string{"\x00"}},
		{[]string{"\x01", "\x02"}, []string{"\x01\x80"}, []string{"\x01\x80", "\x02\x1d"}},
		{[]string{"\x01\x02"}, []string{"\x01\x00\x04", "\x80\x01\x00"}, []string{"\x1c\x02\x04"}},
	} {
		if got, err := mat.Mul(c.a, c.b); !slices.Equal(got, c.want) || err != api.OK {
			t.Errorf("case %d: %q, error %d", i, got, err)
		}
	}
}

func TestMulOfManySizes(t *testing.T) { // P3.2
	sizes := []int{1, 2, 3, 5, 16, 255}
	for _, n := range sizes {
		for _, l := range sizes {
			for _, m := range sizes {
				if n*l*m > 1<<21 {
					continue
				}
				a, b := table(n, l, 3), table(l, m, 4)
				if got, err := mat.Mul(a, b); !slices.Equal(got, product(a, b)) || err != api.OK {
					t.Errorf("%d rows of %d by %d: error %d", n, l, m, err)
				}
			}
		}
	}
}

func TestMulOfTheGreatest(t *testing.T) { // P3.2
	a, b := table(255, 255, 5), table(255, 255, 6)
	got, err := mat.Mul(a, b)
	if !slices.Equal(got, product(a, b)) || err != api.OK {
		t.Errorf("error %d", err)
	}
}

func TestMulOfNoFit(t *testing.T) { // P3.2, R3
	for i, c := range [][2][]string{
		{{"ab"}, {"a"}},
		{{"a"}, {"a", "b"}},
		{{"ab", "cd"}, {"abc"}},
		{{"ab", "cd", "ef"}, {"ab", "cd", "ef"}},
		{{"abc", "abc"}, {"ab", "ab"}},
		{table(1, 255, 1), table(254, 1, 1)},
		{table(255, 254, 1), table(255, 255, 1)},
	} {
		if got, err := mat.Mul(c[0], c[1]); len(got) != 0 || err != api.ErrArg {
			t.Errorf("case %d: %q, error %d", i, got, err)
		}
	}
	for i, wrong := range noTables() {
		for _, right := range [][]string{{"a"}, {"a", "b"}, table(255, 255, 1), table(3, 1, 1), wrong} {
			if got, err := mat.Mul(wrong, right); len(got) != 0 || err != api.ErrArg {
				t.Errorf("wrong case %d, first: %d rows, error %d", i, len(got), err)
			}
			if got, err := mat.Mul(right, wrong); len(got) != 0 || err != api.ErrArg {
				t.Errorf("wrong case %d, second: %d rows, error %d", i, len(got), err)
			}
		}
	}
}

func TestInvertOfOne(t *testing.T) { // P3.3
	if got, err := mat.Invert([]string{"\x00"}); len(got) != 0 || err != api.ErrSingular {
		t.Errorf("Invert of 0: %q, error %d", got, err)
	}
	if got, err := mat.Invert([]string{"\x02"}); !slices.Equal(got, []string{"\x8e"}) || err != api.OK {
		t.Errorf("Invert of 2: %q, error %d", got, err)
	}
	for c := 1; c < 256; c++ {
		inverse, _ := gf.Inv(byte(c))
		if got, err := mat.Invert([]string{string([]byte{byte(c)})}); err != api.OK || got[0] != string([]byte{inverse}) {
			t.Errorf("Invert of %d: %q, error %d", c, got, err)
		}
	}
}

// TestInvertOfTwo tells by the two products of the corners whether there is
// an inverse.
func TestInvertOfTwo(t *testing.T) { // P3.3, P3.4
	some := []byte{0, 1, 2, 3, 29, 128, 142, 255}
	for _, p := range some {
		for _, q := range some {
			for _, r := range some {
				for _, s := range some {
					a := []string{string([]byte{p, q}), string([]byte{r, s})}
					got, err := mat.Invert(a)
					if gf.Mul(p, s) == gf.Mul(q, r) {
						if len(got) != 0 || err != api.ErrSingular {
							t.Errorf("Invert(%q): %q, error %d", a, got, err)
						}
						continue
					}
					if err != api.OK || len(got) != 2 || !slices.Equal(product(a, got), ones(2)) {
						t.Errorf("Invert(%q): %q, error %d", a, got, err)
					}
				}
			}
		}
	}
}

func inverseHolds(t *testing.T, name string, a []string) {
	t.Helper()
	x, err := mat.Invert(a)
	if err != api.OK || len(x) != len(a) || len(x[0]) != len(a) {
		t.Errorf("%s: %d rows, error %d", name, len(x), err)
		return
	}
	for _, order := range [][2][]string{{a, x}, {x, a}} {
		if got, err := mat.Mul(order[0], order[1]); !slices.Equal(got, ones(len(a))) || err != api.OK {
			t.Errorf("%s: no Identity, error %d", name, err)
		}
	}
	if back, err := mat.Invert(x); !slices.Equal(back, a) || err != api.OK {
		t.Errorf("%s: not the same when inverted twice, error %d", name, err)
	}
}

func TestInvertBothWaysRound(t *testing.T) { // P3.3, P3.4
	for _, n := range []int{1, 2, 3, 4, 7, 16, 40} {
		for seed := range uint32(5) {
			lower, upper := triangle(n, false, seed), triangle(n, true, seed+100)
			inverseHolds(t, "Identity", ones(n))
			inverseHolds(t, "lower", lower)
			inverseHolds(t, "upper", upper)
			inverseHolds(t, "full", product(lower, upper))
		}
	}
}

func TestInvertOfRowsThatAreExchanged(t *testing.T) { // P3.3, P3.4
	inverseHolds(t, "two", []string{"\x00\x01", "\x01\x00"})
	inverseHolds(t, "round", []string{"\x00\x02\x00", "\x00\x00\x03", "\x05\x00\x00"})
	inverseHolds(t, "only below", []string{"\x01\x02\x03", "\x01\x02\x07", "\x01\x04\x09"})
	inverseHolds(t, "last", []string{"\x01\x00\x00", "\x00\x00\x07", "\x00\x09\x01"})
	for _, n := range []int{2, 3, 4, 7, 16, 40} {
		inverseHolds(t, "turned Identity", turned(ones(n)))
		inverseHolds(t, "turned lower", turned(triangle(n, false, 7)))
		inverseHolds(t, "turned upper", turned(triangle(n, true, 8)))
	}
}

func TestInvertOfTheGreatest(t *testing.T) { // P3.3, P3.4
	full, _ := mat.Mul(triangle(255, false, 10), triangle(255, true, 11))
	for i, a := range [][]string{turned(triangle(255, true, 9)), full} {
		x, err := mat.Invert(a)
		if err != api.OK || !slices.Equal(product(a, x), ones(255)) {
			t.Errorf("case %d: error %d", i, err)
		}
	}
}

// singular has one row that is others' sum.
func singular(n int, at int, seed uint32) []string {
	a := product(triangle(n, false, seed), triangle(n, true, seed+1))
	sum := make([]byte, n)
	for i, row := range a {
		for j := range sum {
			if i != at {
				sum[j] = gf.Add(sum[j], gf.Mul(row[j], byte(i+1)))
			}
		}
	}
	a[at] = string(sum)
	return a
}

func TestInvertOfSingular(t *testing.T) { // P3.3, R3
	cases := [][]string{
		{"\x01\x02", "\x02\x04"},
		{"\x00\x00", "\x00\x00"},
		{"\x01\x01", "\x01\x01"},
		{"\x00\x01", "\x00\x02"},
		{"\x01\x00", "\x02\x00"},
		{"\x01\x00\x00", "\x00\x00\x00", "\x00\x00\x01"},
		{"\x01\x00\x02", "\x00\x01\x03", "\x01\x01\x01"},
		{"ab\x00", "cd\x00", "ef\x00"},
	}
	for _, n := range []int{2, 3, 8, 30} {
		for at := range n {
			cases = append(cases, singular(n, at, 12))
		}
	}
	twiceTheSame := triangle(255, true, 13)
	twiceTheSame[254] = twiceTheSame[100]
	cases = append(cases, twiceTheSame, slices.Repeat([]string{strings.Repeat("a", 255)}, 255))
	for i, a := range cases {
		if got, err := mat.Invert(a); len(got) != 0 || err != api.ErrSingular {
			t.Errorf("case %d: %d rows, error %d", i, len(got), err)
		}
	}
}

func TestInvertOfNoSquare(t *testing.T) { // P3.3, R2, R3
	cases := append(noTables(), [][]string{
		{"ab"},
		{"a", "b"},
		{"\x00\x00"},
		{"\x00", "\x00"},
		{"abc", "abd"},
		table(255, 254, 1),
		table(254, 255, 1),
	}...)
	for i, a := range cases {
		if got, err := mat.Invert(a); len(got) != 0 || err != api.ErrArg {
			t.Errorf("case %d: %d rows, error %d", i, len(got), err)
		}
	}
}

func TestNothingIsChangedOrShared(t *testing.T) { // R5, R6
	a := turned(triangle(5, true, 15))
	b := table(5, 4, 16)
	rows := []int{3, 0}
	wasA, wasB, wasRows := slices.Clone(a), slices.Clone(b), slices.Clone(rows)
	calls := []func() ([]string, api.Errno){
		func() ([]string, api.Errno) { return mat.Identity(5) },
		func() ([]string, api.Errno) { return mat.Mul(a, b) },
		func() ([]string, api.Errno) { return mat.Invert(a) },
		func() ([]string, api.Errno) { return mat.Pick(a, rows) },
	}
	for i, call := range calls {
		first, err := call()
		was := slices.Clone(first)
		for j := range first {
			first[j] = "spoilt"
		}
		again, errAgain := call()
		if err != api.OK || errAgain != api.OK || !slices.Equal(again, was) {
			t.Errorf("call %d: not the same again", i)
		}
	}
	mat.May(a)
	if !slices.Equal(a, wasA) || !slices.Equal(b, wasB) || !slices.Equal(rows, wasRows) {
		t.Error("an argument was changed")
	}
}
