package crc_test

import (
	"strings"
	"testing"

	"sheetpile/crc"
)

// goes is the chapter's word: a byte goes into a number.
func goes(x uint32, b byte) uint32 {
	x ^= uint32(b)
	for range 8 {
		odd := x%2 == 1
		x /= 2
		if odd {
			x ^= 0x82F63B78
		}
	}
	return x
}

func written(begin uint32, s string) uint32 {
	for _, b := range []byte(s) {
		begin = goes(begin, b)
	}
	return begin ^ 0xFFFFFFFF
}

func someBytes(n int, x uint32) string {
	b := make([]byte, n)
	for i := range b {
		x = x*1664525 + 1013904223
		b[i] = byte(x >> 24)
	}
	return string(b)
}

func TestSum(t *testing.T) { // P6.1
	for _, c := range []struct {
		s   string
		sum uint32
	}{
		{"", 0}, {"123456789", 0xE3069283}, {"a", 0xC1D04330}, {"\x00", 0x527D5351},
		{strings.Repeat("\x00", 32), 0x8A9136AA}, {strings.Repeat("\xFF", 32), 0x62A8AB43},
	} {
		if got := crc.Sum(c.s); got != c.sum {
			t.Errorf("Sum(%q): %#x", c.s, got)
		}
	}
	for b := range 256 {
		s := string([]byte{byte(b)})
		if crc.Sum(s) != written(0xFFFFFFFF, s) {
			t.Errorf("Sum of byte %#x: %#x", b, crc.Sum(s))
		}
	}
	for n := range 300 {
		s := someBytes(n, uint32(n))
		if crc.Sum(s) != written(0xFFFFFFFF, s) {
			t.Errorf("Sum of %d bytes: %#x", n, crc.Sum(s))
		}
	}
	if long := someBytes(1<<20, 7); crc.Sum(long) != written(0xFFFFFFFF, long) {
		t.Error("Sum of a long text")
	}
	if s := "\xFF\xFEno runes\x80é"; crc.Sum(s) != written(0xFFFFFFFF, s) {
		t.Errorf("Sum(%q): %#x", s, crc.Sum(s))
	}
}

func TestMore(t *testing.T) { // P6.1
	for _, sum := range []uint32{0, 1, 77, 0x7FFFFFFF, 0x80000000, 0xFFFFFFFE, 0xFFFFFFFF, 0xE3069283} {
		if got := crc.More(sum, ""); got != sum {
			t.Errorf("More(%#x, nothing): %#x", sum, got)
		}
		for n := range 40 {
			s := someBytes(n, sum)
			if got := crc.More(sum, s); got != written(sum^0xFFFFFFFF, s) {
				t.Errorf("More(%#x, %q): %#x", sum, s, got)
			}
		}
	}
}

func TestInParts(t *testing.T) { // P6.2, R6
	s := someBytes(100, 3)
	whole := crc.Sum(s)
	for i := range len(s) + 1 {
		if got := crc.More(crc.Sum(s[:i]), s[i:]); got != whole {
			t.Errorf("cut at %d: %#x", i, got)
		}
		if got := crc.More(crc.More(crc.Sum(s[:i/2]), s[i/2:i]), s[i:]); got != whole {
			t.Errorf("cut at %d and %d: %#x", i/2, i, got)
		}
	}
	var sum uint32
	for i := range len(s) {
		sum = crc.More(sum, s[i:i+1])
	}
	if sum != whole || crc.Sum(s) != whole {
		t.Errorf("byte by byte: %#x", sum)
	}
}

// turned is s with these 32 bits turned over, from bit at on, the lowest of a
// byte first.
func turned(s string, at int, bits uint32) string {
	b := []byte(s)
	for i := range 32 {
		if bits>>i&1 == 1 {
			b[(at+i)/8] ^= 1 << ((at + i) % 8)
		}
	}
	return string(b)
}

func TestChangesWithin32Bits(t *testing.T) { // P6.2
	for _, s := range []string{strings.Repeat("\x00", 12), someBytes(12, 9), strings.Repeat("\xFF", 12)} {
		sum := crc.Sum(s)
		for at := range 12*8 - 31 {
			for i := range 32 {
				for j := range i + 1 {
					if crc.Sum(turned(s, at, 1<<i|1<<j)) == sum {
						t.Errorf("bits %d and %d turned over", at+i, at+j)
					}
				}
			}
			x := uint32(at)
			for range 200 {
				x = x*1664525 + 1013904223
				if x != 0 && crc.Sum(turned(s, at, x)) == sum {
					t.Errorf("%#x turned over, at %d", x, at)
				}
			}
		}
	}
	seen := map[uint32]string{}
	for x := range uint32(1 << 16) {
		s := string([]byte{byte(x), 0, 0, byte(x >> 8)})
		if other, ok := seen[crc.Sum(s)]; ok {
			t.Fatalf("%q and %q have one sum", s, other)
		}
		seen[crc.Sum(s)] = s
	}
}
