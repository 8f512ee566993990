package vec_test

import (
	"bytes"
	"math"
	"slices"
	"strings"
	"testing"

	"sheetpile/api"
	"sheetpile/gf"
	"sheetpile/vec"
)

// allNumbers is a row of each number once.
func allNumbers() string {
	row := make([]byte, 256)
	for i := range row {
		row[i] = byte(i)
	}
	return string(row)
}

// turned is the row read from its end, so that two rows differ at each place.
func turned(row string) string {
	b := []byte(row)
	slices.Reverse(b)
	return string(b)
}

// must is for calls that may have no error.
func must(t *testing.T, row string, err api.Errno) string {
	t.Helper()
	if err != api.OK {
		t.Fatalf("error %d", err)
	}
	return row
}

func TestZero(t *testing.T) { // P2.1
	for _, n := range []int{0, 1, 2, 255, 4096, 65535, 65536} {
		if got, err := vec.Zero(n); got != strings.Repeat("\x00", n) || err != api.OK {
			t.Errorf("Zero(%d): %d bytes, error %d", n, len(got), err)
		}
	}
}

func TestZeroOfNoLength(t *testing.T) { // P2.1, R1, R3
	for _, n := range []int{-1, -65536, 65537, 131072, math.MaxInt32, math.MinInt32, math.MaxInt, math.MinInt} {
		if got, err := vec.Zero(n); got != "" || err != api.ErrArg {
			t.Errorf("Zero(%d): %d bytes, error %d", n, len(got), err)
		}
	}
}

func TestAdd(t *testing.T) { // P2.1
	for _, c := range [][3]string{
		{"", "", ""},
		{"a", "b", "\x03"},
		{"abc", "abc", "\x00\x00\x00"},
		{"\x00\xff\x0f", "\xff\xff\xf0", "\xff\x00\xff"},
		{"é", "\x00\x00", "é"},
		{allNumbers(), strings.Repeat("\xff", 256), turned(allNumbers())},
	} {
		if got, err := vec.Add(c[0], c[1]); got != c[2] || err != api.OK {
			t.Errorf("Add(%q, %q): %q, error %d", c[0], c[1], got, err)
		}
	}
}

func TestAddOfTwoLengths(t *testing.T) { // P2.1, R3
	for _, c := range [][2]string{{"a", ""}, {"", "a"}, {"ab", "a"}, {"a", "ab"}, {"é", "e"}} {
		if got, err := vec.Add(c[0], c[1]); got != "" || err != api.ErrArg {
			t.Errorf("Add(%q, %q): %q, error %d", c[0], c[1], got, err)
		}
	}
}

func TestScale(t *testing.T) { // P2.1
	for c := range 256 {
		row := allNumbers()
		got := vec.Scale(row, byte(c))
		if len(got) != len(row) {
			t.Fatalf("Scale by %d: %d bytes", c, len(got))
		}
		for i := range len(row) {
			if want := gf.Mul(row[i], byte(c)); got[i] != want {
				t.Fatalf("Scale by %d: byte %d is %d, not %d", c, i, got[i], want)
			}
		}
	}
}

func TestScaleByHand(t *testing.T) { // P2.1
	for _, c := range []struct {
		row  string
		by   byte
		want string
	}{{"", 0, ""}, {"", 9, ""}, {"ab", 0, "\x00\x00"}, {"ab", 1, "ab"}, {"\x80\x01b", 2, "\x1d\x02\xc4"}} {
		if got := vec.Scale(c.row, c.by); got != c.want {
			t.Errorf("Scale(%q, %d): %q", c.row, c.by, got)
		}
	}
}

func TestDot(t *testing.T) { // P2.2
	for _, c := range []struct {
		a, b string
		want byte
	}{
		{"", "", 0},
		{"\x02", "\x80", 29},
		{"\x80", "\x02", 29},
		{"\x02\x01", "\x80\x1d", 0},
		{"\x01\x02\x03", "\x04\x80\x03", 4 ^ 29 ^ 5},
		{"\x00\x00", "ab", 0},
	} {
		if got, err := vec.Dot(c.a, c.b); got != c.want || err != api.OK {
			t.Errorf("Dot(%q, %q): %d, error %d", c.a, c.b, got, err)
		}
	}
}

func TestDotOfLongRows(t *testing.T) { // P2.2
	a, b := allNumbers(), "\x00"+allNumbers()[:255]
	var want byte
	for i := range len(a) {
		want = gf.Add(want, gf.Mul(a[i], b[i]))
	}
	if got, err := vec.Dot(a, b); got != want || err != api.OK {
		t.Errorf("Dot: %d, error %d; not %d", got, err, want)
	}
}

func TestDotOfTwoLengths(t *testing.T) { // P2.2, R3
	for _, c := range [][2]string{{"a", ""}, {"", "a"}, {"ab", "a"}, {"a", "ab"}} {
		if got, err := vec.Dot(c[0], c[1]); got != 0 || err != api.ErrArg {
			t.Errorf("Dot(%q, %q): %d, error %d", c[0], c[1], got, err)
		}
	}
}

func TestGather(t *testing.T) { // P2.2, the document's example first
	for _, c := range []struct {
		numbers []byte
		rows    []string
		want    string
	}{
		{[]byte{1, 2}, []string{"a", "b"}, string([]byte{0x61 ^ 0xC4})},
		{[]byte{1}, []string{"abc"}, "abc"},
		{[]byte{0}, []string{"abc"}, "\x00\x00\x00"},
		{[]byte{9}, []string{""}, ""},
		{[]byte{1, 2, 3}, []string{"", "", ""}, ""},
		{[]byte{7, 7}, []string{"xy", "xy"}, "\x00\x00"},
		{[]byte{1, 2, 3}, []string{"\x01\x00", "\x80\x01", "\x03\x00"}, "\x19\x02"},
	} {
		if got, err := vec.Gather(c.numbers, c.rows); got != c.want || err != api.OK {
			t.Errorf("Gather(%v, %q): %q, error %d", c.numbers, c.rows, got, err)
		}
	}
}

func TestGatherIsSumOfScaled(t *testing.T) { // P2.2
	var numbers []byte
	var rows []string
	want, err := vec.Zero(256)
	want = must(t, want, err)
	for i := range 300 {
		numbers = append(numbers, byte(i*7))
		rows = append(rows, vec.Scale(allNumbers(), byte(i)))
		sum, err := vec.Add(want, vec.Scale(rows[i], numbers[i]))
		want = must(t, sum, err)
		if got, err := vec.Gather(numbers, rows); got != want || err != api.OK {
			t.Fatalf("Gather of %d rows: %q, error %d", i+1, got, err)
		}
	}
}

func TestGatherOfWrongs(t *testing.T) { // P2.2, R1, R3
	for _, c := range []struct {
		numbers []byte
		rows    []string
	}{
		{nil, nil},
		{[]byte{}, []string{}},
		{[]byte{1}, nil},
		{nil, []string{"a"}},
		{[]byte{1}, []string{"a", "b"}},
		{[]byte{1, 2}, []string{"a"}},
		{[]byte{1, 2}, []string{"a", "bc"}},
		{[]byte{1, 2}, []string{"ab", "c"}},
		{[]byte{1, 2}, []string{"", "c"}},
		{[]byte{1, 0}, []string{"ab", ""}},
		{[]byte{1, 2, 3}, []string{"ab", "cd", "e"}},
		{[]byte{1, 2, 3}, []string{"ab", "cd", "efg"}},
		{[]byte{0, 0, 0}, []string{"ab", "c", "de"}},
	} {
		if got, err := vec.Gather(c.numbers, c.rows); got != "" || err != api.ErrArg {
			t.Errorf("Gather(%v, %q): %q, error %d", c.numbers, c.rows, got, err)
		}
	}
}

func TestScaledOverSums(t *testing.T) { // P2.3
	a := allNumbers()
	b := turned(a[128:]) + a[:128]
	added, err := vec.Add(a, b)
	added = must(t, added, err)
	for c := range 256 {
		whole := vec.Scale(added, byte(c))
		parts, err := vec.Add(vec.Scale(a, byte(c)), vec.Scale(b, byte(c)))
		if must(t, parts, err) != whole {
			t.Fatalf("scaled by %d: the sum is not the sum of the scaled", c)
		}
		gathered, err := vec.Gather([]byte{byte(c), byte(c)}, []string{a, b})
		if must(t, gathered, err) != whole {
			t.Fatalf("scaled by %d: gathered is not the scaled sum", c)
		}
	}
}

func TestHandedInIsUnchanged(t *testing.T) { // R5, R6
	numbers, rows := []byte{3, 1, 2}, []string{"ab", "cd", "ef"}
	keptNumbers, keptRows := bytes.Clone(numbers), slices.Clone(rows)
	first, err := vec.Gather(numbers, rows)
	first = must(t, first, err)
	if !bytes.Equal(numbers, keptNumbers) || !slices.Equal(rows, keptRows) {
		t.Errorf("Gather changed %v, %q", numbers, rows)
	}
	again, err := vec.Gather(numbers, rows)
	if must(t, again, err) != first {
		t.Errorf("Gather: %q, then %q", first, again)
	}
}
