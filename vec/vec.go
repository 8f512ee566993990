// Package vec is layer 2, rows of numbers: see shared/doc/02-vec.md.
package vec

import (
	"sheetpile/api"
	"sheetpile/gf"
)

// maxZero is the longest row that Zero makes.
const maxZero = 65536

func Add(a string, b string) (string, api.Errno) { return sum(a, b) }

func Scale(a string, c byte) string {
	scaled := make([]byte, len(a))
	for i := range scaled {
		scaled[i] = gf.Mul(a[i], c)
	}
	return string(scaled)
}

// Gather leaves it to sum to look at the rows' lengths: scaled rows are as
// long as they were.
func Gather(c []byte, l []string) (string, api.Errno) {
	if len(c) != len(l) {
		return "", api.ErrArg
	}
	scaled := make([]string, len(l))
	for i, row := range l {
		scaled[i] = Scale(row, c[i])
	}
	return sum(scaled...)
}

func Dot(a string, b string) (byte, api.Errno) {
	if len(a) != len(b) {
		return 0, api.ErrArg
	}
	var total byte
	for i := range len(a) {
		total = gf.Add(total, gf.Mul(a[i], b[i]))
	}
	return total, api.OK
}

func Zero(n int) (string, api.Errno) {
	if n < 0 || n > maxZero {
		return "", api.ErrArg
	}
	return string(make([]byte, n)), api.OK
}

// sum refuses no rows at all, since they would not tell how long it is.
func sum(rows ...string) (string, api.Errno) {
	if len(rows) == 0 {
		return "", api.ErrArg
	}
	total := make([]byte, len(rows[0]))
	for _, row := range rows {
		if len(row) != len(total) {
			return "", api.ErrArg
		}
		for i := range total {
			total[i] = gf.Add(total[i], row[i])
		}
	}
	return string(total), api.OK
}
