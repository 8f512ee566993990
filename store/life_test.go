package store_test

import (
	"maps"
	"math/rand"
	"strconv"
	"strings"
	"testing"

	"sheetpile/api"
	"sheetpile/array"
	"sheetpile/scrub"
	"sheetpile/store"
)

// life is a store beside what it should be, and the disks that are bad.
type life struct {
	t      *testing.T
	random *rand.Rand
	c      api.Conf
	a      *array.Array
	s      *store.Store
	p      plain
	bad    map[int]bool
	many   int // how many values there were
}

// group is one of a few keys, whose values are told apart.
func (l *life) group() []api.Change {
	var g []api.Change
	for range 1 + l.random.Intn(3) {
		k := string(rune('a' + l.random.Intn(6)))
		if l.random.Intn(4) == 0 {
			g = append(g, gone(k)...)
		} else {
			l.many++
			g = append(g, put(k, strconv.Itoa(l.many)+strings.Repeat(".", l.random.Intn(4)))...)
		}
	}
	return g
}

func (l *life) keep() []bool {
	keep := make([]bool, l.random.Intn(4*l.a.Disks()))
	for i := range keep {
		keep[i] = l.random.Intn(2) == 0
	}
	return keep
}

// open may be cut, but then no disk is made bad till it is opened.
func (l *life) open() {
	for l.random.Intn(3) == 0 {
		ok(l.t, "Fuse", l.a.Fuse(l.random.Intn(20)))
		s, err := store.Open(l.a, id)
		if (s == nil) != (err == api.ErrPower) || s != nil && err != api.OK {
			l.t.Errorf("Open: %v, %d", s, err)
		}
		ok(l.t, "Crash", l.a.Crash(l.keep()))
	}
	l.s = opened(l.t, l.a)
}

// crash is while the store does something, or just behind it. What it tells
// then, it goes on with.
func (l *life) crash(do func(s *store.Store) api.Errno) {
	ok(l.t, "Fuse", l.a.Fuse(l.random.Intn(60)))
	err := do(l.s)
	ok(l.t, "Crash", l.a.Crash(l.keep()))
	l.open()
	if !isBegun(l.t, l.s, l.p, err) {
		l.t.Errorf("behind a crash: %d: %v", err, pairsOf(l.t, l.s))
	}
	// How many bytes there are hangs on whether a Merge was done.
	ok(l.t, "Merge", l.s.Merge())
	l.p = plain{synced: compact(pairsOf(l.t, l.s))}
}

func (l *life) damage() {
	d := l.random.Intn(l.a.Disks())
	if !l.bad[d] && len(l.bad) == l.c.M {
		return
	}
	l.bad[d] = true
	harms[l.random.Intn(len(harms))].do(l.a, l.c, d)
}

func (l *life) heal() {
	for d := range l.a.Disks() {
		if !l.a.Alive(d) {
			ok(l.t, "Replace", l.a.Replace(d))
		}
	}
	r, err := scrub.All(l.s.Volume())
	if r.Lost != 0 || err != api.OK {
		l.t.Errorf("scrub.All: %v, %d", r, err)
	}
	clear(l.bad)
}

func (l *life) step() {
	switch l.random.Intn(12) {
	case 0:
		ok(l.t, "Sync", l.s.Sync())
		l.p.sync()
	case 1:
		ok(l.t, "Merge", l.s.Merge())
		l.p.merge()
	case 2:
		l.open()
		l.p.waits = nil
	case 3:
		l.crash((*store.Store).Sync)
	case 4:
		l.crash((*store.Store).Merge)
	case 5, 6:
		l.damage()
	case 7:
		l.heal()
	default:
		g := l.group()
		tells(l.t, "Update", l.s.Update(g), l.p.update(l.c, g))
	}
	l.p.is(l.t, "life", l.s)
}

// Long runs of all that a store does, among crashes and disks that are bad, are
// held against a plain map.
func TestLife(t *testing.T) { // P23.1 to P23.5
	for seed, c := range append(layouts, wide, large, crashed[0], crashed[1], crashed[2]) {
		c.Stripes = max(c.Stripes, 9)
		a, s := fresh(t, c)
		l := &life{t: t, random: rand.New(rand.NewSource(int64(seed))), c: c, a: a, s: s, bad: map[int]bool{}}
		for step := range 1000 {
			l.step()
			if t.Failed() {
				t.Fatalf("%v, step %d", c, step)
			}
		}
	}
}

// The same again, all is the same.
func TestSameAgain(t *testing.T) { // R6
	c := crashed[0]
	run := func() (map[string]string, []string) {
		a, s := fresh(t, c)
		l := &life{t: t, random: rand.New(rand.NewSource(9)), c: c, a: a, s: s, bad: map[int]bool{}}
		for range 300 {
			l.step()
		}
		return pairsOf(t, l.s), sectors(a, c)
	}
	pairs, disks := run()
	for range 3 {
		p, d := run()
		if !maps.Equal(p, pairs) || strings.Join(d, "|") != strings.Join(disks, "|") {
			t.Error("another run is another one")
		}
	}
}
