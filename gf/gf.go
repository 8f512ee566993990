// Package gf is layer 1, numbers of 256: see shared/doc/01-gf.md.
package gf

import "sheetpile/api"

const (
	// reducer brings a doubled number back below 256. With this one the
	// doublings of 1 go through all numbers but 0, so that each has a Log.
	reducer = 0x11D
	// cycle is how many doublings bring a number back to itself.
	cycle = 255
)

func Add(a byte, b byte) byte { return a ^ b }

// Mul goes bit by bit: tables would have to be made anew in each call, which
// takes longer than the eight steps here.
func Mul(a byte, b byte) byte {
	var product byte
	for ; b != 0; b >>= 1 {
		if b&1 == 1 {
			product = Add(product, a)
		}
		a = twice(a)
	}
	return product
}

func Div(a byte, b byte) (byte, api.Errno) {
	inverse, err := Inv(b)
	if err != api.OK {
		return 0, err
	}
	return Mul(a, inverse), api.OK
}

// Inv leans on Exp(n) times Exp(-n) being Exp(0), which is 1.
func Inv(a byte) (byte, api.Errno) {
	n, err := Log(a)
	if err != api.OK {
		return 0, err
	}
	return Exp(-n), api.OK
}

func Exp(n int) byte {
	powers := powersOfTwo()
	return powers[aroundCycle(n)]
}

func Log(a byte) (int, api.Errno) {
	if a == 0 {
		return 0, api.ErrArg
	}
	logs := logsOfTwo()
	return int(logs[a]), api.OK
}

func Pow(a byte, n int) byte {
	if n <= 0 {
		return 1
	}
	log, err := Log(a)
	if err != api.OK {
		return 0
	}
	// n is brought round ahead of the product, which might overflow else.
	return Exp(log * aroundCycle(n))
}

func twice(a byte) byte {
	doubled := int(a) << 1
	if doubled > 255 {
		doubled ^= reducer
	}
	return byte(doubled)
}

// aroundCycle mends Go's remainder, which is below 0 of an n below 0.
func aroundCycle(n int) int {
	rest := n % cycle
	if rest < 0 {
		rest += cycle
	}
	return rest
}

func powersOfTwo() [cycle]byte {
	var powers [cycle]byte
	power := byte(1)
	for n := range powers {
		powers[n] = power
		power = twice(power)
	}
	return powers
}

// logsOfTwo has an entry of 0 too, so that any byte is an index; it means
// nothing, since 0 is no doubling of 1.
func logsOfTwo() [256]byte {
	var logs [256]byte
	for n, power := range powersOfTwo() {
		logs[power] = byte(n)
	}
	return logs
}
