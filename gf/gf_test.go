package gf_test

import (
	"math"
	"testing"

	"sheetpile/api"
	"sheetpile/gf"
)

// doubled is written from the document's words, apart from the package, so
// that a fault in the package's own doubling shows.
func doubled(a byte, times int) byte {
	x := int(a)
	for range times {
		x *= 2
		if x >= 256 {
			x ^= 0x11D
		}
	}
	return byte(x)
}

func product(a, b byte) byte {
	var p byte
	for i := range 8 {
		if b>>i&1 == 1 {
			p ^= doubled(a, i)
		}
	}
	return p
}

// everyPair calls look with all pairs of numbers.
func everyPair(look func(a, b byte)) {
	for a := range 256 {
		for b := range 256 {
			look(byte(a), byte(b))
		}
	}
}

func TestAddIsXor(t *testing.T) { // P1.1
	everyPair(func(a, b byte) {
		if got := gf.Add(a, b); got != a^b {
			t.Fatalf("Add(%d, %d): %d", a, b, got)
		}
	})
}

func TestMulIsSumOfDoublings(t *testing.T) { // P1.1
	everyPair(func(a, b byte) {
		if got, want := gf.Mul(a, b), product(a, b); got != want {
			t.Fatalf("Mul(%d, %d): %d, not %d", a, b, got, want)
		}
	})
}

func TestMulByHand(t *testing.T) { // P1.1, the document's example first
	for _, c := range [][3]byte{{2, 128, 29}, {128, 2, 29}, {0, 0, 0}, {0, 255, 0}, {255, 0, 0}, {1, 255, 255}, {255, 1, 255}, {3, 3, 5}, {4, 128, 58}, {2, 142, 1}} {
		if got := gf.Mul(c[0], c[1]); got != c[2] {
			t.Errorf("Mul(%d, %d): %d, not %d", c[0], c[1], got, c[2])
		}
	}
}

func TestInvIsTheOneThatMakes1(t *testing.T) { // P1.2
	for a := 1; a < 256; a++ {
		got, err := gf.Inv(byte(a))
		if err != api.OK {
			t.Fatalf("Inv(%d): error %d", a, err)
		}
		for x := range 256 {
			if (product(byte(a), byte(x)) == 1) != (byte(x) == got) {
				t.Fatalf("Inv(%d): %d, but there is %d", a, got, x)
			}
		}
	}
}

func TestInvOf0(t *testing.T) { // P1.2, R3
	if got, err := gf.Inv(0); got != 0 || err != api.ErrArg {
		t.Errorf("Inv(0): %d, error %d", got, err)
	}
}

func TestDivIsMulByInv(t *testing.T) { // P1.2
	everyPair(func(a, b byte) {
		got, err := gf.Div(a, b)
		if b == 0 {
			if got != 0 || err != api.ErrArg {
				t.Fatalf("Div(%d, 0): %d, error %d", a, got, err)
			}
			return
		}
		if err != api.OK || product(got, b) != a {
			t.Fatalf("Div(%d, %d): %d, error %d", a, b, got, err)
		}
	})
}

func TestExp(t *testing.T) { // P1.3
	for n := -1100; n <= 1100; n++ {
		rest := n
		for rest < 0 {
			rest += 255
		}
		for rest >= 255 {
			rest -= 255
		}
		if got, want := gf.Exp(n), doubled(1, rest); got != want {
			t.Errorf("Exp(%d): %d, not %d", n, got, want)
		}
	}
}

func TestExpEdges(t *testing.T) { // P1.3, R1
	for n, want := range map[int]byte{
		0: 1, 1: 2, 7: 128, 8: 29, 253: 71, 254: 142,
		255: 1, 256: 2, 509: 142, 510: 1,
		-1: 142, -2: 71, -254: 2, -255: 1, -256: 142, -510: 1,
		// The remainders are 127 and 127, then 126 and 128.
		math.MaxInt: 204, math.MinInt: 204, math.MaxInt - 1: 102, math.MinInt + 1: 133,
	} {
		if got := gf.Exp(n); got != want {
			t.Errorf("Exp(%d): %d, not %d", n, got, want)
		}
	}
}

func TestLogIsTheLeast(t *testing.T) { // P1.3
	for a := 1; a < 256; a++ {
		least := 0
		for doubled(1, least) != byte(a) {
			least++
		}
		if got, err := gf.Log(byte(a)); got != least || err != api.OK {
			t.Errorf("Log(%d): %d, error %d; not %d", a, got, err, least)
		}
	}
}

func TestLogOf0(t *testing.T) { // P1.3, R3
	if got, err := gf.Log(0); got != 0 || err != api.ErrArg {
		t.Errorf("Log(0): %d, error %d", got, err)
	}
}

func TestPow(t *testing.T) { // P1.3
	for a := range 256 {
		want := byte(1)
		for n := range 600 {
			if got := gf.Pow(byte(a), n); got != want {
				t.Fatalf("Pow(%d, %d): %d, not %d", a, n, got, want)
			}
			want = product(want, byte(a))
		}
	}
}

func TestPowOfNone(t *testing.T) { // P1.3: 1 of an n that is 0 or below, of 0 too
	for a := range 256 {
		for _, n := range []int{0, -1, -2, -254, -255, -256, math.MinInt32, math.MinInt} {
			if got := gf.Pow(byte(a), n); got != 1 {
				t.Fatalf("Pow(%d, %d): %d", a, n, got)
			}
		}
	}
}

func TestPowOfMany(t *testing.T) { // P1.3, R1
	for _, n := range []int{math.MaxInt32, math.MaxInt, math.MaxInt - 1} {
		if got := gf.Pow(0, n); got != 0 {
			t.Errorf("Pow(0, %d): %d", n, got)
		}
		for a := 1; a < 256; a++ {
			want := byte(1)
			for range n % 255 { // a^255 is 1
				want = product(want, byte(a))
			}
			if got := gf.Pow(byte(a), n); got != want {
				t.Errorf("Pow(%d, %d): %d, not %d", a, n, got, want)
			}
		}
	}
}

func TestMultipliedAndDividedAgain(t *testing.T) { // P1.4
	everyPair(func(a, b byte) {
		if b == 0 {
			return
		}
		if got, err := gf.Div(gf.Mul(a, b), b); got != a || err != api.OK {
			t.Fatalf("%d times and by %d: %d, error %d", a, b, got, err)
		}
		if a != 0 && gf.Mul(a, b) == 0 {
			t.Fatalf("Mul(%d, %d): 0", a, b)
		}
	})
}

func TestSameAgain(t *testing.T) { // R6
	everyPair(func(a, b byte) {
		first, firstErr := gf.Div(a, b)
		gf.Exp(int(a) * int(b))
		if again, err := gf.Div(a, b); again != first || err != firstErr {
			t.Fatalf("Div(%d, %d): %d, then %d", a, b, first, again)
		}
	})
}
