package log_test

import (
	"math"
	"slices"
	"strings"
	"testing"

	"sheetpile/api"
	"sheetpile/log"
)

func TestAppend(t *testing.T) { // P22.2
	for _, s := range bare() {
		for _, has := range s.lengths() {
			for _, will := range s.lengths() {
				if will >= has {
					s, to := s.with(letters(0, has)), s.with(letters(0, will))
					s.does(t, "Append", func(l *log.Log) api.Errno { return l.Append(letters(has, will-has)) }, to, false)
				}
			}
		}
	}
}

func TestTruncate(t *testing.T) { // P22.3
	for _, s := range bare() {
		for _, has := range s.lengths() {
			for _, will := range s.lengths() {
				if will <= has {
					s, to := s.with(letters(0, has)), s.with(letters(0, will))
					s.does(t, "Truncate", func(l *log.Log) api.Errno { return l.Truncate(will) }, to, true)
				}
			}
		}
	}
}

// Stripes behind the text's end are empty behind a Truncate, and behind an
// Append, whatever they had.
func TestStripesBehindTheEnd(t *testing.T) { // P22.2, P22.3
	for _, s := range someCrowded() {
		text := s.text()
		for n := range len(text) + 1 {
			s.does(t, "Truncate", func(l *log.Log) api.Errno { return l.Truncate(n) }, s.with(text[:n]), true)
		}
		for n := range s.count*s.size() - len(text) + 1 {
			more := strings.Repeat("+", n)
			s.does(t, "Append", func(l *log.Log) api.Errno { return l.Append(more) }, s.with(text+more), false)
		}
	}
}

func TestAppendTooMuch(t *testing.T) { // P22.2, R2, R3
	for _, s := range all() {
		room := s.count*s.size() - len(s.text())
		for _, beyond := range []int{1, 2, s.size(), 1000} {
			s.refuses(t, "too many bytes", func(l *log.Log) api.Errno { return l.Append(strings.Repeat("x", room+beyond)) }, api.ErrFull)
		}
		_, v, l := s.opened(t)
		ok(t, "Append", l.Append(strings.Repeat("x", room)))
		s.with(s.text()+strings.Repeat("x", room)).has(t, "just so many bytes", v, l)
	}
}

func TestTruncateOfWrongLengths(t *testing.T) { // P22.3, R2, R3
	for _, s := range all() {
		length := len(s.text())
		for _, n := range []int{math.MinInt, -s.size(), -2, -1, length + 1, length + 2, length + s.size(), s.count*s.size() + 1, math.MaxInt} {
			s.refuses(t, "a wrong length", func(l *log.Log) api.Errno { return l.Truncate(n) }, api.ErrArg)
		}
	}
}

// refuses holds that a call tells an error, also without power, and changes
// nothing.
func (s scene) refuses(t *testing.T, what string, call func(l *log.Log) api.Errno, want api.Errno) {
	t.Helper()
	a, v, l := s.opened(t)
	before := sectors(a, s.c)
	for range 2 {
		if err := call(l); err != want {
			t.Errorf("%s: %q: %d, not %d", what, s.parts, err, want)
		}
	}
	if !slices.Equal(sectors(a, s.c), before) {
		t.Errorf("%s: %q: it wrote", what, s.parts)
	}
	s.has(t, what, v, l)
	goDown(t, a)
	if err := call(l); err != want {
		t.Errorf("%s: %q, without power: %d, not %d", what, s.parts, err, want)
	}
	s.tells(t, what+", without power", l)
}

// What is to be written and can't be is told; what needs no write is fine, be
// the power gone or the disks.
func TestErrorsOfTheVolume(t *testing.T) { // P22.2, P22.3
	for _, s := range bare() {
		for _, has := range s.lengths() {
			s := s.with(letters(0, has))
			for _, want := range []api.Errno{api.ErrPower, api.ErrLost} {
				broken := func() *log.Log {
					a, _, l := s.opened(t)
					if want == api.ErrPower {
						goDown(t, a)
						return l
					}
					for d := range s.c.M + 1 {
						ok(t, "Fail", a.Fail(d))
					}
					return l
				}
				ok(t, "Append of nothing", broken().Append(""))
				ok(t, "Truncate to the same length", broken().Truncate(has))
				if has < s.count*s.size() {
					if err := broken().Append("x"); err != want {
						t.Errorf("%q: Append: %d, not %d", s.parts, err, want)
					}
				}
				if has > 0 {
					if err := broken().Truncate(has - 1); err != want {
						t.Errorf("%q: Truncate: %d, not %d", s.parts, err, want)
					}
				}
			}
		}
	}
}

// A log that told an error may be asked anything; another one is opened.
func TestBehindAnError(t *testing.T) { // P22.2, P22.3, R1
	s := bare()[1].with("abcde")
	for fuse := range 3 * s.writes() {
		a, _, l := s.opened(t)
		ok(t, "Fuse", a.Fuse(fuse))
		l.Append("fghijkl")
		for n := range 13 {
			l.Text()
			l.Room()
			l.Append(letters(0, n))
			l.Truncate(n)
		}
		v, k := s.again(t, a, nil)
		text := k.Text()
		ok(t, "Truncate", k.Truncate(1))
		ok(t, "Append", k.Append(text[1:]))
		s.with(text).has(t, "opened again", v, k)
	}
}
