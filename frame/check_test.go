package frame_test

import (
	"slices"
	"strings"
	"testing"

	"sheetpile/api"
)

// Several tests hold Write to Check's answer, too: see checks.

func TestCheckOfHowMany(t *testing.T) { // P19.1
	checks(t, "nil", nil, api.ErrArg)
	checks(t, "none", []api.Change{}, api.ErrArg)
	for _, n := range []int{1, 2, 3, 63, 64} {
		checks(t, "not too many", many(n), api.OK)
	}
	for _, n := range []int{65, 66, 128, 256, 1000, 65536} {
		checks(t, "too many", many(n), api.ErrBig)
	}
}

func TestCheckOfKeys(t *testing.T) { // P19.1
	good := []string{"k", " ", "~", "\u0080", "\uFFFD", "\uFFFE", "\U0010FFFF", "a b", "%", "\u007Fx"[1:]}
	bad := []string{"", "\xFF", "\x80", "a\x80", "\xC3", "a\xE2\x82", "\xC0\x80", "\xED\xA0\x80", "\xF4\x90\x80\x80", "\xF0\x8F\xBF\xBF", "é\xE9"}
	for _, r := range []string{"k", "é", "€", "\U00010000"} {
		good = append(good, strings.Repeat(r, 63), strings.Repeat(r, 64))
		bad = append(bad, strings.Repeat(r, 65), strings.Repeat(r, 66), strings.Repeat(r, 65536))
	}
	for b := range 32 {
		bad = append(bad, bytesOf(b, 1), "a"+bytesOf(b, 1), bytesOf(b, 1)+"a", "a"+bytesOf(b, 1)+"a")
	}
	bad = append(bad, "\x7F", "a\x7F", "\x7Fa", strings.Repeat("k", 63)+"\x7F")
	for _, k := range good {
		checks(t, "a good key", []api.Change{{Key: k, Value: "v"}}, api.OK)
		checks(t, "a good key", []api.Change{{Key: k, Gone: true}}, api.OK)
	}
	for _, k := range bad {
		checks(t, "a bad key", []api.Change{{Key: k, Value: "v"}}, api.ErrKey)
		checks(t, "a bad key", []api.Change{{Key: k, Gone: true}}, api.ErrKey)
		checks(t, "a bad key behind a good one", []api.Change{{Key: "a"}, {Key: k}}, api.ErrKey)
	}
}

func TestCheckOfValues(t *testing.T) { // P19.1
	for _, x := range []struct {
		length    int
		put, gone api.Errno
	}{
		{0, api.OK, api.OK},
		{1, api.OK, api.ErrArg},
		{1023, api.OK, api.ErrArg},
		{1024, api.OK, api.ErrArg},
		{1025, api.ErrBig, api.ErrBig},
		{65535, api.ErrBig, api.ErrBig},
		{65536, api.ErrBig, api.ErrBig},
		{1 << 20, api.ErrBig, api.ErrBig},
	} {
		v := strings.Repeat("v", x.length)
		checks(t, "a value", []api.Change{{Key: "k", Value: v}}, x.put)
		checks(t, "a value of one that is Gone", []api.Change{{Key: "k", Value: v, Gone: true}}, x.gone)
	}
	checks(t, "any bytes", []api.Change{{Key: "k", Value: allBytes()}}, api.OK)
	checks(t, "runes are not counted", []api.Change{{Key: "k", Value: strings.Repeat("é", 512)}}, api.OK)
	checks(t, "runes are not counted", []api.Change{{Key: "k", Value: strings.Repeat("é", 513)}}, api.ErrBig)
}

// Each fault of a change stands with and without each other one, and each such
// change ahead of each other one: the first change's first error is told.
func TestCheckTellsTheFirstError(t *testing.T) { // P19.1, R2
	big := strings.Repeat("v", 1025)
	kinds := []struct {
		c   api.Change
		err api.Errno
	}{
		{api.Change{Key: "k"}, api.OK},
		{api.Change{Key: "k", Value: "v"}, api.OK},
		{api.Change{Key: "k", Gone: true}, api.OK},
		{api.Change{Key: "k", Value: big}, api.ErrBig},
		{api.Change{Key: "k", Value: big, Gone: true}, api.ErrBig},
		{api.Change{Key: "k", Value: "v", Gone: true}, api.ErrArg},
		{api.Change{}, api.ErrKey},
		{api.Change{Gone: true}, api.ErrKey},
		{api.Change{Key: "\t", Value: "v"}, api.ErrKey},
		{api.Change{Key: "\t", Value: big}, api.ErrKey},
		{api.Change{Key: "\t", Value: big, Gone: true}, api.ErrKey},
		{api.Change{Key: "\t", Value: "v", Gone: true}, api.ErrKey},
	}
	for _, a := range kinds {
		checks(t, "one change", []api.Change{a.c}, a.err)
		for _, b := range kinds {
			two := a.err
			if two == api.OK {
				two = b.err
			}
			checks(t, "two changes", []api.Change{a.c, b.c}, two)
			for _, c := range kinds {
				three := two
				if three == api.OK {
					three = c.err
				}
				checks(t, "three changes", []api.Change{a.c, b.c, c.c}, three)
			}
		}
	}
}

func TestCheckOfManyWithFaults(t *testing.T) { // P19.1, R2
	for _, fault := range someFaults() {
		for _, n := range []int{1, 2, 63, 64, 65, 66} {
			for at := range n {
				l := many(n)
				l[at] = fault
				want := faultOf(fault)
				if n > 64 {
					want = api.ErrBig
				}
				checks(t, "one is faulty", l, want)
			}
		}
	}
	for _, a := range someFaults() {
		for _, b := range someFaults() {
			l := many(64)
			l[30], l[63] = a, b
			checks(t, "two are faulty", l, faultOf(a))
			checks(t, "all are faulty", slices.Repeat([]api.Change{a, b}, 32), faultOf(a))
			checks(t, "too many are faulty", slices.Repeat([]api.Change{a, b}, 33), api.ErrBig)
		}
	}
}
