package wire_test

import (
	"math"
	"strings"
	"testing"

	"sheetpile/api"
	"sheetpile/wire"
)

// written is the number by the chapter's words alone: the lowest byte first.
func written(n, size int) string {
	b := make([]byte, size)
	for i := range b {
		b[i] = byte(n % 256)
		n /= 256
	}
	return string(b)
}

func power256(size int) int {
	p := 1
	for range size {
		p *= 256
	}
	return p
}

// someNumbers are numbers that go into size bytes, the least and the greatest
// of each lesser size among them.
func someNumbers(size int) []int {
	numbers := []int{0, 1, 2, 127, 128, 254, 255}
	for less := 1; less < size; less++ {
		p := power256(less)
		numbers = append(numbers, p, p-1, p+1, 127*p, 128*p, 255*p, 255*p+1)
	}
	x := uint64(size)
	for range 200 {
		x = x*6364136223846793005 + 1442695040888963407
		numbers = append(numbers, int(x>>8)%power256(size))
	}
	return append(numbers, power256(size)-1, power256(size)-2)
}

// someBehind are texts that may stand behind a number or a text.
func someBehind() []string {
	return []string{"", "\x00", "\xFF", "xy", "\x01\x00", "\x02\x00ab", strings.Repeat("\xFF", 9), "\x80é%"}
}

// noSizes are sizes that no number has.
func noSizes() []int {
	return []int{0, -1, 8, 9, -7, 16, 255, 256, 257, 1 << 32, 1<<32 + 1, math.MaxInt, math.MinInt, math.MinInt + 1}
}

func TestPut(t *testing.T) { // P7.1
	if s, err := wire.Put(258, 3); s != "\x02\x01\x00" || err != api.OK {
		t.Errorf("the chapter's example: %q, %d", s, err)
	}
	for size := 1; size <= 7; size++ {
		for _, n := range someNumbers(size) {
			if s, err := wire.Put(n, size); s != written(n, size) || err != api.OK {
				t.Errorf("Put(%d, %d): %q, %d", n, size, s, err)
			}
		}
	}
	for n := range 1 << 16 {
		if s, err := wire.Put(n, 2); s != written(n, 2) || err != api.OK {
			t.Fatalf("Put(%d, 2): %q, %d", n, s, err)
		}
	}
}

func TestPutGreatest(t *testing.T) { // P7.1, R3
	for size := 1; size <= 7; size++ {
		p := power256(size)
		if s, err := wire.Put(p-1, size); s != strings.Repeat("\xFF", size) || err != api.OK {
			t.Errorf("Put(%d, %d): %q, %d", p-1, size, s, err)
		}
		for _, n := range []int{p, p + 1, p + 255, 2*p - 1, 2 * p, 127 * p, 1 << 56, 1 << 62, math.MaxInt} {
			if s, err := wire.Put(n, size); s != "" || err != api.ErrBig {
				t.Errorf("Put(%d, %d): %q, %d", n, size, s, err)
			}
		}
	}
}

func TestPutWrong(t *testing.T) { // P7.1, R2, R3
	for _, size := range noSizes() {
		for _, n := range []int{0, 1, 255, 256, 1 << 56, math.MaxInt, -1, math.MinInt} {
			if s, err := wire.Put(n, size); s != "" || err != api.ErrArg {
				t.Errorf("Put(%d, %d): %q, %d", n, size, s, err)
			}
		}
	}
	for size := 1; size <= 7; size++ {
		for _, n := range []int{-1, -2, -255, -256, -257, -1 << 32, -1 << 56, -power256(size), math.MinInt, math.MinInt + 1} {
			if s, err := wire.Put(n, size); s != "" || err != api.ErrArg {
				t.Errorf("Put(%d, %d): %q, %d", n, size, s, err)
			}
		}
	}
}

func TestCut(t *testing.T) { // P7.1
	for i, c := range []struct {
		s      string
		size   int
		n      int
		behind string
	}{
		{"\x02\x01\x00", 3, 258, ""}, {"\x02\x01\x00", 2, 258, "\x00"}, {"\x02\x01\x00", 1, 2, "\x01\x00"},
		{"\x00", 1, 0, ""}, {"\x80", 1, 128, ""}, {"\xFF", 1, 255, ""}, {"\x00\x80", 2, 32768, ""},
		{"\x01\x02\x03\x04\x05\x06\x07", 7, 0x07060504030201, ""}, {"\x01\x02\x03\x04\x05\x06\x07\x08", 7, 0x07060504030201, "\x08"},
		{"\xFF\xFF\xFF\xFF\xFF\xFF\xFF\xFF", 7, 1<<56 - 1, "\xFF"}, {"\x00\x00\x00\x80", 4, 1 << 31, ""}, {"\xFF\xFF\xFF\xFF\x00", 4, 1<<32 - 1, "\x00"},
		{"abc", 3, 0x636261, ""}, {"é!", 2, 0xA9C3, "!"},
	} {
		if n, behind, err := wire.Cut(c.s, c.size); n != c.n || behind != c.behind || err != api.OK {
			t.Errorf("case %d: %d, %q, %d", i, n, behind, err)
		}
	}
}

func TestCutWrong(t *testing.T) { // P7.1, R2, R3
	for _, size := range noSizes() {
		for _, s := range []string{"", "a", "abcdefg", "abcdefghijklmnop", strings.Repeat("a", 300)} {
			if n, behind, err := wire.Cut(s, size); n != 0 || behind != "" || err != api.ErrArg {
				t.Errorf("Cut(%q, %d): %d, %q, %d", s, size, n, behind, err)
			}
		}
	}
	for size := 1; size <= 7; size++ {
		for length := range size {
			s := "abcdefg"[:length]
			if n, behind, err := wire.Cut(s, size); n != 0 || behind != "" || err != api.ErrCut {
				t.Errorf("Cut(%q, %d): %d, %q, %d", s, size, n, behind, err)
			}
		}
	}
}

func TestText(t *testing.T) { // P7.2
	for _, c := range [][2]string{
		{"", "\x00\x00"}, {"a", "\x01\x00a"}, {"abc", "\x03\x00abc"}, {"\x00", "\x01\x00\x00"}, {"é\xFF", "\x03\x00é\xFF"},
		{strings.Repeat("b", 255), "\xFF\x00" + strings.Repeat("b", 255)}, {strings.Repeat("b", 256), "\x00\x01" + strings.Repeat("b", 256)},
		{strings.Repeat("b", 65534), "\xFE\xFF" + strings.Repeat("b", 65534)}, {strings.Repeat("b", 65535), "\xFF\xFF" + strings.Repeat("b", 65535)},
	} {
		if s, err := wire.Text(c[0]); s != c[1] || err != api.OK {
			t.Errorf("Text of %d bytes: %.9q, %d", len(c[0]), s, err)
		}
	}
	for _, length := range []int{65536, 65537, 65791, 131072, 1 << 20} {
		if s, err := wire.Text(strings.Repeat("b", length)); s != "" || err != api.ErrBig {
			t.Errorf("Text of %d bytes: %.9q, %d", length, s, err)
		}
	}
}

func TestTake(t *testing.T) { // P7.2
	for i, c := range [][3]string{
		{"\x00\x00", "", ""}, {"\x00\x00a", "", "a"}, {"\x01\x00a", "a", ""}, {"\x02\x00abc", "ab", "c"},
		{"\x01\x00\x00\x00", "\x00", "\x00"}, {"\x02\x00\xFF\xFE\xFD", "\xFF\xFE", "\xFD"},
		{"\x00\x01" + strings.Repeat("b", 257), strings.Repeat("b", 256), "b"},
		{"\xFF\xFF" + strings.Repeat("b", 65535), strings.Repeat("b", 65535), ""},
		{"\xFF\xFF" + strings.Repeat("b", 65537), strings.Repeat("b", 65535), "bb"},
	} {
		if text, behind, err := wire.Take(c[0]); text != c[1] || behind != c[2] || err != api.OK {
			t.Errorf("case %d: %.9q, %.9q, %d", i, text, behind, err)
		}
	}
}

func TestTakeWrong(t *testing.T) { // P7.2, R3
	for _, s := range []string{"", "\x00", "\x01", "\xFF", "a"} {
		if text, behind, err := wire.Take(s); text != "" || behind != "" || err != api.ErrCut {
			t.Errorf("Take(%q): %q, %q, %d", s, text, behind, err)
		}
	}
	for _, length := range []int{1, 2, 3, 127, 128, 255, 256, 257, 32768, 65534, 65535} {
		for _, have := range []int{0, length / 2, length - 1} {
			s := written(length, 2) + strings.Repeat("b", have)
			if text, behind, err := wire.Take(s); text != "" || behind != "" || err != api.ErrCut {
				t.Errorf("Take of %d bytes, of which %d are: %.9q, %.9q, %d", length, have, text, behind, err)
			}
		}
	}
}

func TestWhatIsPutIsCut(t *testing.T) { // P7.3, R6
	for size := 1; size <= 7; size++ {
		for _, n := range someNumbers(size) {
			s, err := wire.Put(n, size)
			if err != api.OK {
				t.Errorf("Put(%d, %d): %d", n, size, err)
			}
			for _, behind := range someBehind() {
				for range 2 {
					if m, b, err := wire.Cut(s+behind, size); m != n || b != behind || err != api.OK {
						t.Errorf("Cut of %d and %q: %d, %q, %d", n, behind, m, b, err)
					}
				}
			}
		}
	}
}

func TestWhatIsTextIsTaken(t *testing.T) { // P7.3, R6
	texts := []string{"", "a", "\x00", "\x00\x00", "\xFF\xFF", "\x02\x00ab", "é€", strings.Repeat("c", 65535)}
	for length := range 600 {
		texts = append(texts, strings.Repeat("d", length))
	}
	for _, text := range texts {
		s, err := wire.Text(text)
		if err != api.OK {
			t.Errorf("Text of %d bytes: %d", len(text), err)
		}
		for _, behind := range someBehind() {
			for range 2 {
				if got, b, err := wire.Take(s + behind); got != text || b != behind || err != api.OK {
					t.Errorf("Take of %d bytes and %q: %.9q, %.9q, %d", len(text), behind, got, b, err)
				}
			}
		}
	}
}
