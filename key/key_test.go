package key_test

import (
	"slices"
	"strings"
	"testing"

	"sheetpile/api"
	"sheetpile/key"
)

// written is the bytes that a rune of that number and so many bytes would
// have by the chapter's words, whether or not the number may be.
func written(number, size int) string {
	if size == 1 {
		return string([]byte{byte(number)})
	}
	b := make([]byte, size)
	for i := size - 1; i > 0; i-- {
		b[i] = byte(128 + number%64)
		number /= 64
	}
	b[0] = byte([]int{192, 224, 240}[size-2] + number)
	return string(b)
}

// may tells by the chapter's words which numbers are those of runes of so
// many bytes.
func may(number, size int) bool {
	least := []int{0, 128, 2048, 65536}[size-1]
	past := []int{128, 2048, 65536, 1114112}[size-1]
	return number >= least && number < past && (number < 55296 || number > 57343)
}

// firstRune reads by the chapter's words: a rune's number and its size, or a
// size of 0 where none stands.
func firstRune(s string) (int, int) {
	size, number := 0, 0
	switch b := int(s[0]); {
	case b < 128:
		size, number = 1, b
	case b >= 192 && b <= 223:
		size, number = 2, b-192
	case b >= 224 && b <= 239:
		size, number = 3, b-224
	case b >= 240 && b <= 247:
		size, number = 4, b-240
	}
	if size == 0 || len(s) < size {
		return 0, 0
	}
	for i := 1; i < size; i++ {
		if s[i] < 128 || s[i] > 191 {
			return 0, 0
		}
		number = number*64 + int(s[i]) - 128
	}
	if !may(number, size) {
		return 0, 0
	}
	return number, size
}

// counted is what Count and Check are by the chapter's words.
func counted(s string) (count int, is bool, err api.Errno) {
	plain := true
	for s != "" {
		number, size := firstRune(s)
		if size == 0 {
			return 0, false, api.ErrKey
		}
		plain = plain && number >= 32 && number != 127
		count++
		s = s[size:]
	}
	if count == 0 || count > 64 || !plain {
		return count, true, api.ErrKey
	}
	return count, true, api.OK
}

func checkAsCounted(t *testing.T, s string) {
	t.Helper()
	count, is, err := counted(s)
	if n, ok := key.Count(s); n != count || ok != is {
		t.Errorf("Count(%q): %d, %t", s, n, ok)
	}
	if e := key.Check(s); e != err {
		t.Errorf("Check(%q): %d", s, e)
	}
}

// edgeBytes are those on both sides of each border that the chapter names.
func edgeBytes() []byte {
	return []byte{
		0, 31, 32, 33, '%', '0', 'A', 'a', 126, 127, 128, 143, 144, 159, 160, 189, 190, 191,
		192, 193, 194, 223, 224, 225, 236, 237, 238, 239, 240, 241, 243, 244, 245, 247, 248, 255,
	}
}

// allOf calls do with each text of so many of these bytes.
func allOf(letters []byte, length int, do func(s string)) {
	b := make([]byte, length)
	var fill func(at int)
	fill = func(at int) {
		if at == length {
			do(string(b))
			return
		}
		for _, c := range letters {
			b[at] = c
			fill(at + 1)
		}
	}
	fill(0)
}

func allBytes() []byte {
	b := make([]byte, 256)
	for i := range b {
		b[i] = byte(i)
	}
	return b
}

func TestCount(t *testing.T) { // P8.1
	for _, c := range []struct {
		s     string
		count int
	}{
		{"", 0}, {"a", 1}, {"abc", 3}, {"\x00", 1}, {"\n\x7F", 2}, {"\u0080", 1}, {"\u07FF", 1}, {"\u0800", 1}, {"\uD7FF\uE000", 2},
		{"\uFFFD", 1}, {"\uFFFDa\uFFFD", 3}, {"\uFFFF", 1}, {"\U00010000", 1}, {"\U0010FFFF", 1}, {"aé€\U0001F642", 4},
		{strings.Repeat("€", 64), 64}, {strings.Repeat("€", 65), 65}, {strings.Repeat("\U0010FFFF", 100000), 100000},
	} {
		if n, is := key.Count(c.s); n != c.count || !is {
			t.Errorf("Count(%.40q): %d, %t", c.s, n, is)
		}
	}
}

func TestCountOfEachRune(t *testing.T) { // P8.1, R3
	for size, past := range map[int]int{1: 128, 2: 1 << 11, 3: 1 << 16, 4: 1 << 21} {
		for number := range past {
			s := written(number, size)
			is := may(number, size)
			count, err := 0, api.ErrKey
			if is {
				count = 1
			}
			if is && number >= 32 && number != 127 {
				err = api.OK
			}
			if n, ok := key.Count(s); n != count || ok != is {
				t.Errorf("Count(%q): %d, %t", s, n, ok)
			}
			if e := key.Check(s); e != err {
				t.Errorf("Check(%q): %d", s, e)
			}
		}
	}
}

func TestNoRunes(t *testing.T) { // P8.1, R3
	for _, s := range []string{
		"\x80", "\xBF", "\xC0", "\xC1", "\xF5", "\xF8", "\xFE", "\xFF", // no first bytes, or cut off
		"\xC3", "\xE2\x82", "\xF0\x9F\x99", "\xEF\xBF", "\xEF", // cut off
		"\xC3a", "\xC3\xC3", "\xE2\x82a", "\xE2a\xAC", "\xF0\x9F\x99a", "\xEF\xBFa", "\xEF\xBF\xC0", // cut off by another
		"\xC0\x80", "\xC1\xBF", "\xE0\x80\x80", "\xE0\x9F\xBF", "\xF0\x80\x80\x80", "\xF0\x8F\xBF\xBF", // fewer bytes would do
		"\xED\xA0\x80", "\xED\xAF\xBF", "\xED\xBF\xBF", // 55296, 56319, 57343
		"\xF4\x90\x80\x80", "\xF7\xBF\xBF\xBF", // 1114112, and the greatest of four bytes
		"\xF8\x88\x80\x80\x80", "\xFC\x84\x80\x80\x80\x80", // five and six bytes
		"\xEF\xBF\xBD\xBD", "\xC3\xA9\xA9",
	} {
		for _, ahead := range []string{"", "a", "é", "\uFFFD", strings.Repeat("b", 70)} {
			for _, behind := range []string{"", "a", "é", "\uFFFD"} {
				text := ahead + s + behind
				if n, is := key.Count(text); n != 0 || is {
					t.Errorf("Count(%q): %d, %t", text, n, is)
				}
				if err := key.Check(text); err != api.ErrKey {
					t.Errorf("Check(%q): %d", text, err)
				}
			}
		}
	}
}

func TestCountOfAllShortTexts(t *testing.T) { // P8.1
	for length := range 3 {
		allOf(allBytes(), length, func(s string) { checkAsCounted(t, s) })
	}
	allOf(edgeBytes(), 3, func(s string) { checkAsCounted(t, s) })
	allOf(edgeBytes(), 4, func(s string) { checkAsCounted(t, s) })
}

func TestCheck(t *testing.T) { // P8.1
	for _, s := range []string{"a", " ", "a b", "~", "%", "\u0080", "\u009F", "é", "\uFFFD", "\uFFFF", "\U0010FFFF", "\u2028"} {
		if err := key.Check(s); err != api.OK {
			t.Errorf("Check(%q): %d", s, err)
		}
	}
	for number := range 128 {
		want := api.OK
		if number < 32 || number == 127 {
			want = api.ErrKey
		}
		r := string([]byte{byte(number)})
		for _, s := range []string{r, "a" + r, r + "a", "é" + r + "é", strings.Repeat("a", 63) + r} {
			if err := key.Check(s); err != want {
				t.Errorf("Check(%q): %d", s, err)
			}
		}
	}
}

func TestCheckHowMany(t *testing.T) { // P8.1
	if err := key.Check(""); err != api.ErrKey {
		t.Errorf("no runes: %d", err)
	}
	for _, r := range []string{" ", "a", "~", "\u0080", "\u07FF", "\u0800", "\uFFFD", "\uFFFF", "\U00010000", "\U0010FFFF"} {
		for n := 1; n <= 64; n++ {
			if err := key.Check(strings.Repeat(r, n)); err != api.OK {
				t.Errorf("%d of %q: %d", n, r, err)
			}
		}
		for _, n := range []int{65, 66, 128, 256, 320, 1000} {
			if err := key.Check(strings.Repeat(r, n)); err != api.ErrKey {
				t.Errorf("%d of %q: %d", n, r, err)
			}
		}
	}
}

func TestQuote(t *testing.T) { // P8.2
	for _, c := range [][2]string{
		{"", "%"}, {"a b", "a%20b"}, {"abc", "abc"}, {"%", "%25"}, {"100%", "100%25"}, {"%%", "%25%25"}, {"%41", "%2541"},
		{" ", "%20"}, {"!", "!"}, {"~", "~"}, {"\x7F", "%7F"}, {"\x00\xFF", "%00%FF"}, {"\t\n", "%09%0A"}, {"é", "%C3%A9"}, {"\x80", "%80"},
	} {
		if q := key.Quote(c[0]); q != c[1] {
			t.Errorf("Quote(%q): %q", c[0], q)
		}
		if s, err := key.Unquote(c[1]); s != c[0] || err != api.OK {
			t.Errorf("Unquote(%q): %q, %d", c[1], s, err)
		}
	}
	for b := range 256 {
		s := string([]byte{byte(b)})
		want := s
		if b < 33 || b > 126 || b == 37 {
			want = "%" + string([]byte{"0123456789ABCDEF"[b/16], "0123456789ABCDEF"[b%16]})
		}
		if q := key.Quote(s); q != want {
			t.Errorf("Quote(%q): %q", s, q)
		}
		if q := key.Quote("x" + s + s + "y"); q != "x"+want+want+"y" {
			t.Errorf("Quote of x, %q twice, y: %q", s, q)
		}
	}
}

func TestUnquoteWrong(t *testing.T) { // P8.2, R3
	for _, s := range []string{
		"", " ", "a b", "a ", " a", "\x00", "\x1F", "\x7F", "\x80", "\xFF", "é", "a\n", // quoted they should be
		"%2", "%%", "a%", "a%2", "%20%", "%20%2", "%C3%A", "%a", // cut off
		"%41", "%61", "%21", "%7E", "%30", "a%42c", "%20%41", // needn't be quoted
		"%ff", "%0a", "%Ff", "%fF", "%c3%A9", "%2f", // small letters
		"%G0", "%0G", "%  ", "%2 ", "% 2", "%-1", "%+1", "%0x", "%%20", "%2%20", "%/0", "%:0", "%@0", "%0/", "%0:", "%0@", "%\x000", "%0\xFF",
	} {
		if text, err := key.Unquote(s); text != "" || err != api.ErrForm {
			t.Errorf("Unquote(%q): %q, %d", s, text, err)
		}
	}
}

// unquoted reads by the chapter's words: each byte as it must be quoted.
func unquoted(s string) (string, bool) {
	if s == "%" {
		return "", true
	}
	text := ""
	for i := 0; i < len(s); i++ {
		b := s[i]
		if b != '%' {
			if b < 33 || b > 126 {
				return "", false
			}
			text += string([]byte{b})
			continue
		}
		if i+2 >= len(s) {
			return "", false
		}
		high, low := strings.IndexByte("0123456789ABCDEF", s[i+1]), strings.IndexByte("0123456789ABCDEF", s[i+2])
		n := high*16 + low
		if high < 0 || low < 0 || n >= 33 && n <= 126 && n != '%' {
			return "", false
		}
		text += string([]byte{byte(n)})
		i += 2
	}
	return text, text != ""
}

func checkUnquote(t *testing.T, s string) {
	t.Helper()
	want, is := unquoted(s)
	err := api.OK
	if !is {
		err = api.ErrForm
	}
	if text, e := key.Unquote(s); text != want || e != err {
		t.Errorf("Unquote(%q): %q, %d", s, text, e)
	}
}

func TestUnquoteAllShortTexts(t *testing.T) { // P8.2, R3
	for length := range 3 {
		allOf(allBytes(), length, func(s string) {
			checkUnquote(t, s)
			checkUnquote(t, "%"+s)
			checkUnquote(t, "a%"+s+"%20")
		})
	}
	allOf(edgeBytes(), 3, func(s string) { checkUnquote(t, s) })
	for length := range 6 {
		allOf([]byte("%2579AFfG "), length, func(s string) { checkUnquote(t, s) })
	}
}

func TestWhatIsQuotedIsUnquoted(t *testing.T) { // P8.3, R6
	texts := []string{"", "a key, and a value", strings.Repeat("\x00", 5000), strings.Repeat("%", 5000), strings.Repeat("z", 5000)}
	for length := range 3 {
		allOf(allBytes(), length, func(s string) { texts = append(texts, s) })
	}
	x := uint32(1)
	for length := range 300 {
		b := make([]byte, length)
		for i := range b {
			x = x*1664525 + 1013904223
			b[i] = byte(x >> 24)
		}
		texts = append(texts, string(b))
	}
	isNone := func(r rune) bool { return r < 33 || r > 126 }
	for _, s := range texts {
		q := key.Quote(s)
		if q == "" || slices.ContainsFunc([]rune(q), isNone) || key.Quote(s) != q {
			t.Errorf("Quote(%q): %q", s, q)
		}
		if text, err := key.Unquote(q); text != s || err != api.OK {
			t.Errorf("Unquote(%q): %q, %d", q, text, err)
		}
	}
}
