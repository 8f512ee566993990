package intent_test

import (
	"math"
	"strings"
	"testing"

	"sheetpile/api"
	"sheetpile/intent"
)

// bytesOf is a number's lowest bytes, the lowest one first.
func bytesOf(n, size int) string {
	b := make([]byte, size)
	for i := range b {
		b[i] = byte(n >> (8 * i))
	}
	return string(b)
}

// written is the chapter's words: a record.
func written(i intent.Intent) string {
	return "INT" + bytesOf(i.Seq, 7) + bytesOf(i.Stripe, 2) + bytesOf(len(i.Text), 2) + i.Text
}

// isWritten is the other way: whether a text is a record, told by its bytes.
func isWritten(s string) bool {
	return len(s) >= 14 && s[0] == 'I' && s[1] == 'N' && s[2] == 'T' && len(s) == 14+int(s[12])+int(s[13])<<8
}

// someIntents have each number at 0, at the greatest one, and between.
func someIntents() []intent.Intent {
	var list []intent.Intent
	texts := []string{"", "a", "\x00", "hi", "INT", "é\xFF\x80", strings.Repeat("\x00", 40), strings.Repeat("\xFF", 300)}
	for _, seq := range []int{0, 1, 255, 256, 0x07060504030201, 1<<31 - 1, 1 << 32, 1<<56 - 2, 1<<56 - 1} {
		for _, stripe := range []int{0, 1, 255, 256, 0x0908, 999, 1000, 32768, 65534, 65535} {
			for _, text := range texts {
				list = append(list, intent.Intent{Seq: seq, Stripe: stripe, Text: text})
			}
		}
	}
	for _, length := range []int{255, 256, 257, 4000, 32768, 65534, 65535} {
		list = append(list, intent.Intent{Seq: 5, Stripe: 6, Text: strings.Repeat("t", length)})
	}
	return list
}

// look holds what Read answers of s against what its bytes say.
func look(t *testing.T, what string, s string) {
	t.Helper()
	i, err := intent.Read(s)
	if !isWritten(s) {
		if i != (intent.Intent{}) || err != api.ErrForm {
			t.Errorf("%s: Read(%.60q): %.60v, %d", what, s, i, err)
		}
		return
	}
	if err != api.OK || written(i) != s {
		t.Errorf("%s: Read(%.60q): %.60v, %d", what, s, i, err)
	}
}

func TestWriteByHand(t *testing.T) { // P14.1, P14.3
	for _, x := range []struct {
		i    intent.Intent
		want string
	}{
		{intent.Intent{}, "INT\x00\x00\x00\x00\x00\x00\x00\x00\x00\x00\x00"},
		{intent.Intent{Seq: 1}, "INT\x01\x00\x00\x00\x00\x00\x00\x00\x00\x00\x00"},
		{intent.Intent{Stripe: 1}, "INT\x00\x00\x00\x00\x00\x00\x00\x01\x00\x00\x00"},
		{intent.Intent{Seq: 0x07060504030201, Stripe: 0x0908, Text: "hi"}, "INT\x01\x02\x03\x04\x05\x06\x07\x08\x09\x02\x00hi"},
		{intent.Intent{Seq: 1<<56 - 1, Stripe: 65535, Text: "\x00"}, "INT\xFF\xFF\xFF\xFF\xFF\xFF\xFF\xFF\xFF\x01\x00\x00"},
		{intent.Intent{Text: strings.Repeat("a", 0x0102)}, "INT\x00\x00\x00\x00\x00\x00\x00\x00\x00\x02\x01" + strings.Repeat("a", 0x0102)},
	} {
		if s, err := intent.Write(x.i); s != x.want || err != api.OK {
			t.Errorf("Write(%.60v): %.60q, %d", x.i, s, err)
		}
	}
}

func TestWriteAndRead(t *testing.T) { // P14.1, P14.2, P14.3, R6
	for _, i := range someIntents() {
		for range 2 {
			s, err := intent.Write(i)
			if s != written(i) || len(s) != 14+len(i.Text) || err != api.OK {
				t.Errorf("Write(%.60v): %.60q, %d", i, s, err)
			}
			if again, err := intent.Read(s); again != i || err != api.OK {
				t.Errorf("Read(%.60q): %.60v, %d", s, again, err)
			}
		}
	}
}

// Each number that is wrong comes with each that is right or wrong behind it:
// the first one's error is told.
func TestWriteTellsTheFirstError(t *testing.T) { // P14.1, R2, R3
	type number struct {
		n   int
		err api.Errno
	}
	seqs := []number{{0, api.OK}, {7, api.OK}, {1<<56 - 1, api.OK}, {1 << 56, api.ErrBig}, {1<<56 + 1, api.ErrBig}, {math.MaxInt, api.ErrBig}, {-1, api.ErrArg}, {-1 << 56, api.ErrArg}, {math.MinInt, api.ErrArg}}
	stripes := []number{{0, api.OK}, {7, api.OK}, {65535, api.OK}, {65536, api.ErrBig}, {65537, api.ErrBig}, {1 << 32, api.ErrBig}, {math.MaxInt, api.ErrBig}, {-1, api.ErrArg}, {-65536, api.ErrArg}, {math.MinInt, api.ErrArg}}
	texts := []number{{0, api.OK}, {1, api.OK}, {65534, api.OK}, {65535, api.OK}, {65536, api.ErrBig}, {65537, api.ErrBig}, {1 << 20, api.ErrBig}}
	for _, seq := range seqs {
		for _, stripe := range stripes {
			for _, text := range texts {
				i := intent.Intent{Seq: seq.n, Stripe: stripe.n, Text: strings.Repeat("x", text.n)}
				want := seq.err
				if want == api.OK {
					want = stripe.err
				}
				if want == api.OK {
					want = text.err
				}
				wantText := ""
				if want == api.OK {
					wantText = written(i)
				}
				if s, err := intent.Write(i); s != wantText || err != want {
					t.Errorf("Write(%d, %d, %d bytes): %.60q, %d, not %d", seq.n, stripe.n, text.n, s, err, want)
				}
			}
		}
	}
}

func TestReadOfCutAndLonger(t *testing.T) { // P14.2, R1, R3
	for _, i := range someIntents() {
		if len(i.Text) > 300 {
			continue
		}
		s := written(i)
		for n := range len(s) {
			if got, err := intent.Read(s[:n]); got != (intent.Intent{}) || err != api.ErrForm {
				t.Errorf("Read of %d bytes of %.60q: %.60v, %d", n, s, got, err)
			}
			if got, err := intent.Read(s[n+1:]); got != (intent.Intent{}) || err != api.ErrForm {
				t.Errorf("Read of %.60q without its first %d: %.60v, %d", s, n+1, got, err)
			}
		}
		for _, more := range []string{"a", "\x00", "INT", s, strings.Repeat("\x00", 65536)} {
			if got, err := intent.Read(s + more); got != (intent.Intent{}) || err != api.ErrForm {
				t.Errorf("Read of %.60q and more: %.60v, %d", s, got, err)
			}
			if more == s {
				continue
			}
			look(t, "something ahead", more+s)
		}
	}
}

func TestReadOfLongTexts(t *testing.T) { // P14.2
	const head = "INT\x01\x00\x00\x00\x00\x00\x00\x02\x00"
	for _, told := range []int{0, 1, 255, 256, 32768, 65534, 65535} {
		for _, has := range []int{0, 1, 254, 255, 256, 257, 32767, 32768, 32769, 65533, 65534, 65535, 65536, 65537, 131072} {
			look(t, "a text that is longer or shorter than told", head+bytesOf(told, 2)+strings.Repeat("z", has))
		}
	}
}

func TestReadOfOtherBeginnings(t *testing.T) { // P14.2, R3
	good := "INT\x02\x01\x00\x00\x00\x00\x00\x03\x00\x02\x00hi"
	for _, mark := range []string{"int", "Int", "IN", "I", "", "INTT", "IINT", " INT", "INT ", "INS", "JNT", "IMT", "SPL", "CONF", "TNI", "\x00\x00\x00", "INTINT"} {
		if i, err := intent.Read(mark + good[3:]); i != (intent.Intent{}) || err != api.ErrForm {
			t.Errorf("Read of the beginning %q: %v, %d", mark, i, err)
		}
	}
	for _, s := range []string{"", "I", "IN", "INT", "\x00", good[3:], strings.Repeat("\x00", 14), strings.Repeat("\xFF", 14), strings.Repeat("INT", 5)} {
		if i, err := intent.Read(s); i != (intent.Intent{}) || err != api.ErrForm {
			t.Errorf("Read(%q): %v, %d", s, i, err)
		}
	}
}

// Each byte is put to each value: what is read is what the bytes say.
func TestReadOfEachByte(t *testing.T) { // P14.2, R1
	for _, i := range []intent.Intent{{}, {Seq: 258, Stripe: 3, Text: "hi"}, {Seq: 1<<56 - 1, Stripe: 65535, Text: "\xFF\xFF"}, {Text: strings.Repeat("INT", 100)}} {
		s := written(i)
		for at := range min(len(s), 40) {
			for b := range 256 {
				changed := s[:at] + string([]byte{byte(b)}) + s[at+1:]
				look(t, "a byte changed", changed)
			}
		}
	}
}
