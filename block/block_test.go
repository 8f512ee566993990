package block_test

import (
	"hash/crc32"
	"math"
	"strings"
	"testing"

	"sheetpile/api"
	"sheetpile/block"
)

// bytesOf is a number's lowest bytes, the lowest one first.
func bytesOf(n, size int) string {
	b := make([]byte, size)
	for i := range b {
		b[i] = byte(n >> (8 * i))
	}
	return string(b)
}

// summed is a text with its sum behind it.
func summed(s string) string {
	return s + bytesOf(int(crc32.Checksum([]byte(s), crc32.MakeTable(crc32.Castagnoli))), 4)
}

// head is all that stands ahead of a text's length.
func head(b block.Block) string {
	return "SPL" + bytesOf(b.Array, 4) + bytesOf(b.Disk, 2) + bytesOf(b.Place, 4) + bytesOf(b.Epoch, 7)
}

// written is the chapter's words: a sector's text.
func written(b block.Block) string {
	return summed(head(b) + bytesOf(len(b.Text), 2) + b.Text)
}

// someBlocks have each number at 0, at the greatest one, and between.
func someBlocks() []block.Block {
	var blocks []block.Block
	texts := []string{"", "a", "\x00", "payload", "SPL", "é\xFF\x80", strings.Repeat("\x00", 40), strings.Repeat("\xFF", 300)}
	for _, array := range []int{0, 1, 0x04030201, 1<<31 - 1, 1 << 31, 1<<32 - 1} {
		for _, disk := range []int{0, 1, 0x0201, 254, 255, 256, 65535} {
			for _, place := range []int{0, 1, 0x08070605, 4095, 4096, 1<<32 - 1} {
				for _, epoch := range []int{0, 1, 0x07060504030201, 1 << 32, 1<<56 - 1} {
					blocks = append(blocks, block.Block{Array: array, Disk: disk, Place: place, Epoch: epoch, Text: texts[len(blocks)%len(texts)]})
				}
			}
		}
	}
	for _, length := range []int{1, 255, 256, 257, 4095, 4096, 65534, 65535} {
		blocks = append(blocks, block.Block{Array: 5, Disk: 6, Place: 7, Epoch: 8, Text: strings.Repeat("t", length)})
	}
	return blocks
}

func TestSealByHand(t *testing.T) { // P11.1
	s, err := block.Seal(block.Block{})
	if len(s) != 26 || s[:22] != "SPL"+strings.Repeat("\x00", 19) || s != summed(s[:22]) || err != api.OK {
		t.Errorf("Seal of nothing: %q, %d", s, err)
	}
	s, err = block.Seal(block.Block{Array: 0x04030201, Disk: 0x0605, Place: 0x0A090807, Epoch: 0x11100F0E0D0C0B, Text: "ab"})
	want := "SPL\x01\x02\x03\x04\x05\x06\x07\x08\x09\x0A\x0B\x0C\x0D\x0E\x0F\x10\x11\x02\x00ab"
	if len(s) != 28 || s != summed(want) || err != api.OK {
		t.Errorf("Seal: %q, %d", s, err)
	}
	if block.Extra != 26 {
		t.Errorf("Extra: %d", block.Extra)
	}
}

func TestSeal(t *testing.T) { // P11.1, R6
	for _, b := range someBlocks() {
		for range 2 {
			if s, err := block.Seal(b); s != written(b) || len(s) != block.Extra+len(b.Text) || err != api.OK {
				t.Errorf("Seal(%.60v): %.60q, %d", b, s, err)
			}
		}
	}
}

func TestSealOfOneWrongNumber(t *testing.T) { // P11.1, R3
	for _, c := range []struct {
		name string
		size int
		with func(n int) block.Block
	}{
		{"Array", 4, func(n int) block.Block { return block.Block{Array: n, Disk: 1, Place: 2, Epoch: 3, Text: "a"} }},
		{"Disk", 2, func(n int) block.Block { return block.Block{Array: 1, Disk: n, Place: 2, Epoch: 3, Text: "a"} }},
		{"Place", 4, func(n int) block.Block { return block.Block{Array: 1, Disk: 2, Place: n, Epoch: 3, Text: "a"} }},
		{"Epoch", 7, func(n int) block.Block { return block.Block{Array: 1, Disk: 2, Place: 3, Epoch: n, Text: "a"} }},
	} {
		next := 1 << (8 * c.size)
		for _, n := range []int{0, 1, next - 2, next - 1} {
			if s, err := block.Seal(c.with(n)); s != written(c.with(n)) || err != api.OK {
				t.Errorf("%s %d: %q, %d", c.name, n, s, err)
			}
		}
		for _, n := range []int{-1, -2, -next, -next + 1, math.MinInt, math.MinInt + 1} {
			if s, err := block.Seal(c.with(n)); s != "" || err != api.ErrArg {
				t.Errorf("%s %d: %q, %d", c.name, n, s, err)
			}
		}
		for _, n := range []int{next, next + 1, 2*next - 1, 2 * next, 1 << 62, math.MaxInt} {
			if s, err := block.Seal(c.with(n)); s != "" || err != api.ErrBig {
				t.Errorf("%s %d: %q, %d", c.name, n, s, err)
			}
		}
	}
}

func TestSealOfAText(t *testing.T) { // P11.1, R3
	for _, length := range []int{0, 65535} {
		b := block.Block{Array: 1, Text: strings.Repeat("b", length)}
		if s, err := block.Seal(b); s != written(b) || err != api.OK {
			t.Errorf("a Text of %d bytes: %.60q, %d", length, s, err)
		}
	}
	for _, length := range []int{65536, 65537, 131072} {
		if s, err := block.Seal(block.Block{Array: 1, Text: strings.Repeat("b", length)}); s != "" || err != api.ErrBig {
			t.Errorf("a Text of %d bytes: %.60q, %d", length, s, err)
		}
	}
}

func TestSealTellsTheFirstError(t *testing.T) { // P11.1, R2, R3
	long := strings.Repeat("b", 65536)
	of := func(n, next int) api.Errno {
		if n < 0 {
			return api.ErrArg
		}
		if n >= next {
			return api.ErrBig
		}
		return api.OK
	}
	for _, array := range []int{7, -1, 1 << 32} {
		for _, disk := range []int{7, -1, 1 << 16} {
			for _, place := range []int{7, -1, 1 << 32} {
				for _, epoch := range []int{7, -1, 1 << 56} {
					for _, text := range []string{"", long} {
						b := block.Block{Array: array, Disk: disk, Place: place, Epoch: epoch, Text: text}
						errs := []api.Errno{of(array, 1<<32), of(disk, 1<<16), of(place, 1<<32), of(epoch, 1<<56), of(len(text), 1<<16)}
						want, sealed := api.OK, written(b)
						for _, err := range errs {
							if err != api.OK {
								want, sealed = err, ""
								break
							}
						}
						if s, err := block.Seal(b); s != sealed || err != want {
							t.Errorf("Seal(%.60v): %.60q, %d instead of %d", b, s, err, want)
						}
					}
				}
			}
		}
	}
}

func TestOpen(t *testing.T) { // P11.2, R6
	for _, b := range someBlocks() {
		for range 2 {
			if got, err := block.Open(written(b)); got != b || err != api.OK {
				t.Errorf("Open of %.60v: %.60v, %d", b, got, err)
			}
		}
	}
}

// refuses asks for an error of Open, and of Own whatever it is asked for.
func refuses(t *testing.T, s string, want api.Errno) {
	t.Helper()
	if got, err := block.Open(s); got != (block.Block{}) || err != want {
		t.Errorf("Open(%.60q) of %d bytes: %.60v, %d instead of %d", s, len(s), got, err, want)
	}
	for _, c := range [][3]int{{0, 0, 0}, {1, 2, 3}, {-1, -1, -1}, {math.MaxInt, math.MinInt, 1 << 32}} {
		if got, err := block.Own(s, c[0], c[1], c[2]); got != (block.Block{}) || err != want {
			t.Errorf("Own(%.60q) of %d bytes: %.60v, %d instead of %d", s, len(s), got, err, want)
		}
	}
}

func TestOpenByHand(t *testing.T) { // P11.2, P11.3, R2, R3
	h := head(block.Block{Array: 1, Disk: 2, Place: 3})
	whole := summed(h + "\x00\x00")
	for _, c := range []struct {
		s    string
		want api.Errno
	}{
		{"", api.ErrCut}, {"SPL", api.ErrCut}, {"X", api.ErrCut},
		{whole[:25], api.ErrCut}, {"X" + whole[1:25], api.ErrCut}, {strings.Repeat("\x00", 25), api.ErrCut}, {summed(h + "\x00"), api.ErrCut},
		{strings.Repeat("\x00", 26), api.ErrForm}, {"XPL" + whole[3:], api.ErrForm}, {"SXL" + whole[3:], api.ErrForm}, {"SPX" + whole[3:], api.ErrForm}, {"spl" + whole[3:], api.ErrForm}, {whole[1:] + "S", api.ErrForm},
		{summed("XPL" + h[3:] + "\x00\x00"), api.ErrForm}, {summed("XPL" + h[3:] + "\xFF\xFF"), api.ErrForm}, {" " + whole, api.ErrForm},
		{h + "\x01\x00" + "abcd", api.ErrCut}, {h + "\x04\x00" + "abcd", api.ErrCut}, {h + "\x05\x00" + "abcd", api.ErrCut}, {h + "\x00\x01" + "abcd", api.ErrCut}, {h + "\xFF\xFF" + "abcd", api.ErrCut},
		{summed(h + "\x01\x00"), api.ErrCut}, {summed(h + "\xFF\xFF" + "abcd"), api.ErrCut},
		{h + "\x02\x00" + "abcde", api.ErrCut}, {h + "\x00\x00" + "abcde", api.ErrForm}, {whole + "\x00", api.ErrForm}, {whole + whole, api.ErrForm}, {summed(h + "\x00\x00a"), api.ErrForm}, {h + "\x00\x00" + strings.Repeat("a", 70000), api.ErrForm},
		{h + "\x00\x00" + "abcd", api.ErrSum}, {h + "\x01\x00" + "abcde", api.ErrSum}, {h + "\x00\x00\x00\x00\x00\x00", api.ErrSum},
		{whole[:25] + string([]byte{whole[25] ^ 1}), api.ErrSum}, {whole[:22] + string([]byte{whole[25], whole[24], whole[23], whole[22]}), api.ErrSum},
		{h + "\x00\x00" + summed("")[:4], api.ErrSum},
	} {
		refuses(t, c.s, c.want)
	}
	if b, err := block.Open(whole); b != (block.Block{Array: 1, Disk: 2, Place: 3}) || err != api.OK {
		t.Errorf("Open of the whole: %v, %d", b, err)
	}
}

// wanted is P11.2's words, of a text of so many bytes that tells so long a
// Text.
func wanted(length int, begins bool, told int, sum bool) api.Errno {
	switch {
	case length < 26:
		return api.ErrCut
	case !begins:
		return api.ErrForm
	case length < 22+told+4:
		return api.ErrCut
	case length > 22+told+4:
		return api.ErrForm
	case !sum:
		return api.ErrSum
	}
	return api.OK
}

func TestOpenTellsTheFirstError(t *testing.T) { // P11.2, R2, R3
	b := block.Block{Array: 9, Disk: 8, Place: 7, Epoch: 6}
	for length := range 40 {
		for told := range 60 {
			for _, mark := range []string{"SPL", "TPL", "SQL", "SPM", "\x00\x00\x00"} {
				for _, sum := range []bool{true, false} {
					s := mark + head(b)[3:] + bytesOf(told, 2) + strings.Repeat("x", 40)
					s = s[:length]
					if length >= 4 {
						s = summed(s[:length-4])
					}
					if !sum && length > 0 {
						s = s[:length-1] + string([]byte{s[length-1] ^ 0x80})
					}
					want := wanted(length, mark == "SPL", told, sum)
					if want != api.OK {
						refuses(t, s, want)
						continue
					}
					b.Text = strings.Repeat("x", told)
					if got, err := block.Open(s); got != b || err != api.OK {
						t.Errorf("Open(%q): %v, %d", s, got, err)
					}
				}
			}
		}
	}
}

func TestOpenOfEachCut(t *testing.T) { // P11.2
	s := written(block.Block{Array: 1, Disk: 2, Place: 3, Epoch: 4, Text: strings.Repeat("SPL", 300)})
	for i := range s {
		refuses(t, s[:i], api.ErrCut)
	}
	for behind := 1; behind < 40; behind++ {
		refuses(t, s+strings.Repeat("\x00", behind), api.ErrForm)
	}
}

func TestOwn(t *testing.T) { // P11.3, R6
	for _, b := range someBlocks() {
		for range 2 {
			if got, err := block.Own(written(b), b.Array, b.Disk, b.Place); got != b || err != api.OK {
				t.Errorf("Own of %.60v: %.60v, %d", b, got, err)
			}
		}
	}
}

func TestOwnOfAnother(t *testing.T) { // P11.3, P11.4, R3
	for _, b := range someBlocks() {
		for _, by := range []int{1, -1, 2, 256, 1 << 16, 1 << 32, -1 << 32, 1 << 56, math.MinInt} {
			for which := 1; which < 8; which++ {
				array, disk, place := b.Array, b.Disk, b.Place
				if which&1 != 0 {
					array += by
				}
				if which&2 != 0 {
					disk += by
				}
				if which&4 != 0 {
					place += by
				}
				if got, err := block.Own(written(b), array, disk, place); got != (block.Block{}) || err != api.ErrForm {
					t.Errorf("Own of %.60v, %d, %d, %d: %.60v, %d", b, array, disk, place, got, err)
				}
			}
		}
	}
	b := block.Block{Array: 1, Disk: 2, Place: 3, Epoch: 4, Text: "a"}
	for _, c := range [][3]int{{2, 1, 3}, {3, 2, 1}, {1, 3, 2}, {2, 3, 1}, {3, 1, 2}, {4, 2, 3}, {1, 4, 3}, {1, 2, 4}} {
		if got, err := block.Own(written(b), c[0], c[1], c[2]); got != (block.Block{}) || err != api.ErrForm {
			t.Errorf("Own of %v: %v, %d", c, got, err)
		}
	}
}

func TestOwnTellsOpensErrorFirst(t *testing.T) { // P11.3, R2, R3
	b := block.Block{Array: 1, Disk: 2, Place: 3, Epoch: 4, Text: "abc"}
	s := written(b)
	for i, c := range []struct {
		s    string
		want api.Errno
	}{
		{s[:25], api.ErrCut}, {s[:len(s)-1], api.ErrCut}, {"X" + s[1:], api.ErrForm}, {s + "a", api.ErrForm},
		{s[:len(s)-1] + string([]byte{s[len(s)-1] ^ 1}), api.ErrSum},
		{s[:3] + "\x02" + s[4:], api.ErrSum}, {s[:7] + "\x03" + s[8:], api.ErrSum}, {s[:9] + "\x04" + s[10:], api.ErrSum}, {s[:13] + "\x05" + s[14:], api.ErrSum},
	} {
		for _, o := range [][3]int{{1, 2, 3}, {2, 2, 3}, {1, 3, 3}, {1, 2, 4}, {9, 9, 9}, {-1, math.MaxInt, math.MinInt}} {
			if got, err := block.Own(c.s, o[0], o[1], o[2]); got != (block.Block{}) || err != c.want {
				t.Errorf("case %d, %v: %v, %d", i, o, got, err)
			}
		}
	}
}

// damagedBlocks are those whose sectors are damaged: their Texts are of
// lengths that damage turns into others.
func damagedBlocks() []block.Block {
	return []block.Block{
		{},
		{Array: 1<<32 - 1, Disk: 65535, Place: 1<<32 - 1, Epoch: 1<<56 - 1},
		{Array: 1, Disk: 2, Place: 3, Epoch: 4, Text: "a"},
		{Array: 0x01020304, Disk: 254, Place: 1016, Epoch: 77, Text: "payload, and more of it"},
		{Disk: 1, Epoch: 1, Text: strings.Repeat("\x00", 64)},
		{Place: 5, Text: strings.Repeat("\xFF", 31)},
	}
}

// refusesDamage asks whether a damaged sector of b is no own one, of b's
// place or of what it tells now.
func refusesDamage(t *testing.T, b block.Block, s string) {
	t.Helper()
	if got, err := block.Own(s, b.Array, b.Disk, b.Place); got != (block.Block{}) || err == api.OK {
		t.Errorf("Own of %v as %q: %v, %d", b, s, got, err)
	}
	if got, err := block.Open(s); got != (block.Block{}) || err == api.OK {
		t.Errorf("Open of %v as %q: %v, %d", b, s, got, err)
	}
}

func TestEachBitTurned(t *testing.T) { // P11.4
	for _, b := range damagedBlocks() {
		s := written(b)
		for i := range 8 * len(s) {
			x := []byte(s)
			x[i/8] ^= 1 << (i % 8)
			refusesDamage(t, b, string(x))
		}
	}
}

func TestBitsTurnedThatFollowOneAnother(t *testing.T) { // P11.4
	dice := uint64(11)
	for _, b := range damagedBlocks() {
		s := written(b)
		for from := range 8 * len(s) {
			for many := 2; many <= 32 && from+many <= 8*len(s); many++ {
				dice = dice*6364136223846793005 + 1442695040888963407
				ends := uint64(1) | 1<<(many-1)
				inner := uint64(1)<<many - 1
				for _, turned := range []uint64{ends, inner, ends | dice>>32&inner, ends | dice>>16&inner} {
					x := []byte(s)
					for i := range many {
						at := from + i
						x[at/8] ^= byte(turned>>i&1) << (at % 8)
					}
					refusesDamage(t, b, string(x))
				}
			}
		}
	}
}

func TestFourBytesOverwritten(t *testing.T) { // P11.4
	for _, b := range damagedBlocks() {
		s := written(b)
		for at := range len(s) - 3 {
			for _, with := range []string{"\x00\x00\x00\x00", "\xFF\xFF\xFF\xFF", "SPL\x00", "\x01\x00\x00\x00", "abcd", s[len(s)-4:]} {
				if x := s[:at] + with + s[at+4:]; x != s {
					refusesDamage(t, b, x)
				}
			}
		}
	}
}

func TestASectorIsItsOwnersAlone(t *testing.T) { // P11.3, P11.4
	var blocks []block.Block
	for array := range 3 {
		for disk := range 4 {
			for place := range 5 {
				blocks = append(blocks, block.Block{Array: array, Disk: disk, Place: place, Epoch: 1, Text: "the same"})
			}
		}
	}
	for i, b := range blocks {
		s, err := block.Seal(b)
		if err != api.OK {
			t.Errorf("Seal(%v): %d", b, err)
		}
		for j, c := range blocks {
			got, err := block.Own(s, c.Array, c.Disk, c.Place)
			if i == j && (got != b || err != api.OK) || i != j && (got != (block.Block{}) || err != api.ErrForm) {
				t.Errorf("%v as one of %v: %v, %d", b, c, got, err)
			}
		}
	}
}
