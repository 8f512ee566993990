package log_test

import (
	"math"
	"slices"
	"testing"

	"sheetpile/api"
	"sheetpile/conf"
	"sheetpile/log"
	"sheetpile/volume"
)

func TestOpen(t *testing.T) { // P22.1
	for _, s := range all() {
		a, v := s.laid(t)
		before := sectors(a, s.c)
		s.has(t, "Open", v, s.open(t, v))
		if !slices.Equal(sectors(a, s.c), before) {
			t.Errorf("%q: Open wrote", s.parts)
		}
	}
}

func TestOpenByHand(t *testing.T) { // P22.1
	for _, x := range []struct {
		parts []string
		text  string
		room  int
	}{
		{[]string{"", "", ""}, "", 12},
		{[]string{"abc", "", ""}, "abc", 9},
		{[]string{"abcd", "", ""}, "abcd", 8},
		{[]string{"abcd", "ef", ""}, "abcdef", 6},
		{[]string{"abcd", "efgh", "ijk"}, "abcdefghijk", 1},
		{[]string{"abcd", "efgh", "ijkl"}, "abcdefghijkl", 0},
		{[]string{"", "efgh", "ijkl"}, "", 12},
		{[]string{"abcd", "", "ijkl"}, "abcd", 8},
		{[]string{"a", "efgh", "ijkl"}, "a", 11},
		{[]string{"abcd", "efg", "ijkl"}, "abcdefg", 5},
	} {
		_, _, l := crowded(x.parts...).opened(t)
		if l.Text() != x.text || l.Room() != x.room {
			t.Errorf("%q: %q, and room for %d", x.parts, l.Text(), l.Room())
		}
	}
}

func TestOpenOfWrongArguments(t *testing.T) { // P22.1, R2, R3
	wrong := func(v *volume.Volume, from int, count int) {
		t.Helper()
		if l, err := log.Open(v, from, count); l != nil || err != api.ErrArg {
			t.Errorf("Open(%d, %d): %v, %d", from, count, l, err)
		}
	}
	numbers := []int{math.MinInt, math.MinInt + 1, -2, -1, 0, 1, 2, 3, 4, 5, 6, 1000, math.MaxInt - 1, math.MaxInt}
	for _, down := range []bool{false, true} {
		for _, lost := range []bool{false, true} {
			s := bare()[1]
			a, v := s.laid(t)
			if lost {
				ok(t, "Fail", a.Fail(1))
				for n := range conf.Sectors(s.c) {
					ok(t, "Corrupt", a.Corrupt(0, n, "junk"))
				}
			}
			if down {
				goDown(t, a)
			}
			want := api.OK
			if down {
				want = api.ErrPower
			} else if lost {
				want = api.ErrLost
			}
			for _, from := range numbers {
				for _, count := range numbers {
					wrong(nil, from, count)
					wrong(&volume.Volume{}, from, count)
					isThere := from >= 0 && from < 5 && count >= 1 && count <= 5 && from+count <= 5
					if !isThere {
						wrong(v, from, count)
					} else if l, err := log.Open(v, from, count); (l == nil) != (want != api.OK) || err != want {
						t.Errorf("Open(%d, %d), power gone %v, lost %v: %v, %d", from, count, down, lost, l, err)
					}
				}
			}
		}
	}
}

// A stripe that is lost is no log's, wherever it is, also behind the text's end.
func TestOpenOfLostStripes(t *testing.T) { // P22.1
	for _, s := range all() {
		for n := range s.parts {
			a, v := s.laid(t)
			for d := range s.c.M + 1 {
				ok(t, "Corrupt", a.Corrupt(d, conf.Stripe(s.c, n), "junk"))
			}
			l, err := log.Open(v, s.from, s.count)
			if n < s.from || n >= s.from+s.count {
				ok(t, "another stripe is lost", err)
				s.tells(t, "another stripe is lost", l)
			} else if l != nil || err != api.ErrLost {
				t.Errorf("%q: stripe %d is lost: %v, %d", s.parts, n, l, err)
			}
		}
	}
}

// However many of its disks are bad, up to M of them, the log is opened, and
// changed.
func TestOpenOnDisksThatFailed(t *testing.T) { // P22.1 to P22.3
	for _, s := range bare() {
		disks := conf.Disks(s.c)
		for set := range 1 << disks {
			s := s.with(letters(0, s.size()))
			a, v := s.laid(t)
			failed := 0
			for d, is := range bitsOf(set, disks) {
				if is {
					failed++
					ok(t, "Fail", a.Fail(d))
				}
			}
			l, err := log.Open(v, s.from, s.count)
			if failed > s.c.M {
				if l != nil || err != api.ErrLost {
					t.Errorf("%v: %d disks failed: %v, %d", s.c, failed, l, err)
				}
				continue
			}
			s.has(t, "disks failed", v, l)
			s = s.with(letters(0, s.size()-1))
			ok(t, "Truncate", l.Truncate(s.size()-1))
			s.has(t, "disks failed", v, l)
			s = s.with(letters(0, s.count*s.size()))
			ok(t, "Append", l.Append(letters(s.size()-1, (s.count-1)*s.size()+1)))
			s.has(t, "disks failed", v, l)
		}
	}
}

// One that is nil, and one that Open did not make.
func TestNoLog(t *testing.T) { // P22.1, R1
	var none *log.Log
	for _, l := range []*log.Log{none, {}} {
		if l.Text() != "" || l.Room() != 0 {
			t.Errorf("%v: %q, and room for %d", l, l.Text(), l.Room())
		}
		l.Append("")
		l.Truncate(0)
	}
	for _, s := range []string{"", "a", letters(0, 60)} {
		if err := none.Append(s); err != api.ErrArg {
			t.Errorf("nil: Append(%q): %d", s, err)
		}
	}
	for _, n := range []int{math.MinInt, -1, 0, 1, math.MaxInt} {
		if err := none.Truncate(n); err != api.ErrArg {
			t.Errorf("nil: Truncate(%d): %d", n, err)
		}
	}
	if err := new(log.Log).Append("a"); err != api.ErrFull {
		t.Errorf("no stripes: %d", err)
	}
	if err := new(log.Log).Truncate(1); err != api.ErrArg {
		t.Errorf("no stripes: %d", err)
	}
}
