package log_test

import (
	"math/rand"
	"strings"
	"testing"

	"sheetpile/api"
	"sheetpile/array"
	"sheetpile/conf"
	"sheetpile/log"
	"sheetpile/volume"
)

// A crash is tried at each write of a sector, with each choice of what is kept
// of the writes that wait.
func TestCrash(t *testing.T) { // P22.4
	for _, s := range bare() {
		for _, has := range []int{0, 1, s.size(), s.size() + 1, s.count*s.size() - 1, s.count * s.size()} {
			for _, will := range []int{0, 1, s.size() - 1, s.size(), s.count*s.size() - 1, s.count * s.size()} {
				if has > s.count*s.size() || will == has {
					continue
				}
				s, to := s.with(letters(0, has)), s.with(letters(0, will))
				s.crashes(t, to)
			}
		}
	}
}

// crashes is for a text that becomes a longer or a shorter one.
func (s scene) crashes(t *testing.T, to scene) {
	t.Helper()
	has, will := len(s.text()), len(to.text())
	call := func(l *log.Log) api.Errno { return l.Append(letters(has, will-has)) }
	if will < has {
		call = func(l *log.Log) api.Errno { return l.Truncate(will) }
	}
	steps := s.steps(to, will < has)
	whole, _ := s.laid(t)
	for fuse := range (len(steps)-1)*s.writes() + 1 {
		for kept := range 1 << conf.Disks(s.c) {
			a := whole.Copy()
			v, err := volume.Open(a, id)
			ok(t, "volume.Open", err)
			l := s.open(t, v)
			ok(t, "Fuse", a.Fuse(fuse))
			call(l)
			v, l = s.again(t, a, bitsOf(kept, conf.Disks(s.c)))
			done := fuse / s.writes()
			got := strings.Join(stripes(t, v), "|")
			if got != strings.Join(steps[done], "|") && (done == len(steps)-1 || got != strings.Join(steps[done+1], "|")) {
				t.Errorf("%q to %q, fuse %d, kept %b: %q", s.parts, to.parts, fuse, kept, got)
			}
			n := len(l.Text())
			if n < min(has, will) || n > max(has, will) || l.Text() != letters(0, n) {
				t.Errorf("%q to %q, fuse %d, kept %b: %q", s.parts, to.parts, fuse, kept, l.Text())
			}
		}
	}
}

func TestTwoLogs(t *testing.T) { // P22.1 to P22.3
	c := api.Conf{K: 2, M: 1, Shard: 8, Stripes: 7, Slots: 2}
	one := scene{c: c, from: 1, count: 3, parts: []string{"head", "", "", "", "", "", ""}}
	_, v, l := one.opened(t)
	k, err := log.Open(v, 4, 3)
	ok(t, "Open", err)
	random := rand.New(rand.NewSource(2))
	texts := [2]string{}
	for step := range 300 {
		which := random.Intn(2)
		texts[which] = change(t, random, []*log.Log{l, k}[which], texts[which], 36, step)
		one = one.with(texts[0])
		two := scene{c: c, from: 4, count: 3, parts: one.parts}.with(texts[1])
		one.parts = two.parts
		one.has(t, "the one log", v, l)
		two.has(t, "the other log", v, k)
	}
}

// change does something to a log, and to its text.
func change(t *testing.T, random *rand.Rand, l *log.Log, text string, most int, step int) string {
	t.Helper()
	if random.Intn(3) > 0 {
		s := strings.Repeat(string(rune('a'+step%26)), random.Intn(most/2))
		err := l.Append(s)
		if len(text)+len(s) > most {
			if err != api.ErrFull {
				t.Errorf("Append of %d bytes behind %d: %d", len(s), len(text), err)
			}
			return text
		}
		ok(t, "Append", err)
		return text + s
	}
	n := random.Intn(len(text) + 1)
	ok(t, "Truncate", l.Truncate(n))
	return text[:n]
}

// Long runs of changes among crashes, failed disks, and mending are held
// against a plain text.
func TestLife(t *testing.T) { // P22.1 to P22.4
	for seed, s := range bare() {
		random := rand.New(rand.NewSource(int64(seed)))
		a, v, l := s.opened(t)
		text := ""
		for step := range 300 {
			switch random.Intn(6) {
			case 0:
				mend(t, a, v)
			case 1:
				failOne(random, a, s.c.M)
			case 2:
				most := s.count * s.size()
				more := strings.Repeat("+", random.Intn(most-len(text)+1))
				ok(t, "Fuse", a.Fuse(random.Intn(3*s.writes())))
				l.Append(more)
				v, l = s.again(t, a, bitsOf(random.Intn(1<<8), 8))
				text = begun(t, l.Text(), len(text), text+more)
			case 3:
				n := random.Intn(len(text) + 1)
				ok(t, "Fuse", a.Fuse(random.Intn(3*s.writes())))
				l.Truncate(n)
				v, l = s.again(t, a, bitsOf(random.Intn(1<<8), 8))
				text = begun(t, l.Text(), n, text)
			default:
				text = change(t, random, l, text, s.count*s.size(), step)
			}
			s.with(text).has(t, "life", v, l)
			if t.Failed() {
				t.Fatalf("layout %v, step %d", s.c, step)
			}
		}
	}
}

// begun is a text that is so many bytes of a whole one, at least.
func begun(t *testing.T, text string, least int, whole string) string {
	t.Helper()
	if len(text) < least || !strings.HasPrefix(whole, text) {
		t.Errorf("%q is no begin of %q, or shorter than %d", text, whole, least)
	}
	return text
}

// failOne leaves at most so many disks that do not work.
func failOne(random *rand.Rand, a *array.Array, most int) {
	for d := range a.Disks() {
		if !a.Alive(d) {
			most--
		}
	}
	if most > 0 {
		a.Fail(random.Intn(a.Disks()))
	}
}

func mend(t *testing.T, a *array.Array, v *volume.Volume) {
	t.Helper()
	for d := range a.Disks() {
		if !a.Alive(d) {
			ok(t, "Replace", a.Replace(d))
		}
	}
	_, err := v.Heads()
	ok(t, "Heads", err)
	for n := range v.Conf().Stripes {
		_, err := v.Mend(n)
		ok(t, "Mend", err)
	}
}
