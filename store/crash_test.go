package store_test

import (
	"maps"
	"testing"

	"sheetpile/api"
	"sheetpile/array"
	"sheetpile/conf"
	"sheetpile/rebuild"
	"sheetpile/scrub"
	"sheetpile/store"
)

// crashed are the layouts of the crashes: the first one's stripes hold less
// than a group, the second one has more parity than data, and more slots.
var crashed = []api.Conf{
	{K: 2, M: 1, Shard: 10, Stripes: 25, Slots: 1},
	{K: 1, M: 2, Shard: 50, Stripes: 9, Slots: 3},
	{K: 2, M: 2, Shard: 32, Stripes: 7, Slots: 2},
}

// begun is what is synced, and what waits: each group more is another map.
var begun = plain{
	synced: [][]api.Change{put("a", "1"), put("b", "old")},
	waits:  [][]api.Change{gone("b"), put("a", "2"), put("c", "3")},
}

// start is an array with what is synced.
func start(t *testing.T, c api.Conf) *array.Array {
	t.Helper()
	a, s := fresh(t, c)
	for _, l := range begun.synced {
		ok(t, "Update", s.Update(l))
	}
	ok(t, "Sync", s.Sync())
	return a
}

// goOn is a store on that array, with what waits.
func goOn(t *testing.T, a *array.Array) *store.Store {
	t.Helper()
	s := opened(t, a)
	for _, l := range begun.waits {
		ok(t, "Update", s.Update(l))
	}
	return s
}

// keeps are all, none, and some of the writes that wait.
func keeps(c api.Conf) [][]bool {
	var list [][]bool
	for set := range 1 << conf.Disks(c) {
		list = append(list, bitsOf(set, conf.Disks(c)))
	}
	return list
}

// harm makes a disk bad.
type harm struct {
	name string
	do   func(a *array.Array, c api.Conf, d int)
}

var harms = []harm{
	{"failed", func(a *array.Array, c api.Conf, d int) { a.Fail(d) }},
	{"replaced", func(a *array.Array, c api.Conf, d int) { a.Replace(d) }},
	{"corrupted", func(a *array.Array, c api.Conf, d int) {
		for n := range conf.Sectors(c) {
			a.Corrupt(d, n, "junk")
		}
	}},
}

// bad are M of the disks, each one of them in one of the ways; and none.
func bad(c api.Conf) [][]int {
	list := [][]int{nil}
	for d := range conf.Disks(c) {
		var set []int
		for i := range c.M {
			set = append(set, (d+i)%conf.Disks(c))
		}
		list = append(list, set)
	}
	return list
}

func (h harm) all(a *array.Array, c api.Conf, set []int) {
	for _, d := range set {
		h.do(a, c, d)
	}
}

// pairsOf is the map that a store tells.
func pairsOf(t *testing.T, s *store.Store) map[string]string {
	t.Helper()
	pairs := map[string]string{}
	for _, k := range s.List() {
		v, err := s.Get(k)
		ok(t, "Get", err)
		pairs[k] = v
	}
	return pairs
}

// first is what is synced, and so many of the groups that waited.
func (p plain) first(waited int) map[string]string {
	p.waits = p.waits[:waited]
	return p.pairs()
}

// isBegun holds the map behind a crash against what was synced, and some of the
// first groups that waited: all of them, if the call told no error.
func isBegun(t *testing.T, s *store.Store, p plain, err api.Errno) bool {
	t.Helper()
	got := pairsOf(t, s)
	if s.Pending() != 0 {
		t.Errorf("%d wait", s.Pending())
	}
	if err == api.OK {
		return maps.Equal(got, p.pairs())
	}
	for n := range len(p.waits) + 1 {
		if maps.Equal(got, p.first(n)) {
			return err == api.ErrPower
		}
	}
	return false
}

// lives is that a store behind a crash is as good as any.
func lives(t *testing.T, a *array.Array, s *store.Store) {
	t.Helper()
	p := plain{synced: compact(pairsOf(t, s))}
	for _, call := range []func(*store.Store) api.Errno{(*store.Store).Sync, (*store.Store).Merge, (*store.Store).Sync} {
		p.waits = append(p.waits, put("z", "9"), gone("a"))
		ok(t, "Update", s.Update(put("z", "9")))
		ok(t, "Update", s.Update(gone("a")))
		ok(t, "a call behind a crash", call(s))
		if !maps.Equal(pairsOf(t, opened(t, a)), p.pairs()) {
			t.Errorf("behind a crash: %v", pairsOf(t, opened(t, a)))
		}
	}
}

var calls = []struct {
	name string
	do   func(s *store.Store) api.Errno
}{{"Sync", (*store.Store).Sync}, {"Merge", (*store.Store).Merge}}

// writesOf is how many sectors a call writes.
func writesOf(t *testing.T, whole *array.Array, do func(s *store.Store) api.Errno) int {
	t.Helper()
	for n := 0; ; n++ {
		a := whole.Copy()
		s := goOn(t, a)
		ok(t, "Fuse", a.Fuse(n))
		if do(s) == api.OK {
			return n
		}
	}
}

// A crash is tried at each write of a sector, with each choice of what is kept,
// and with M disks that are bad ahead of the call or behind the crash.
func TestCrash(t *testing.T) { // P23.5
	for _, c := range crashed {
		whole := start(t, c)
		for _, call := range calls {
			writes := writesOf(t, whole, call.do)
			for fuse := range writes + 1 {
				for i, set := range bad(c) {
					h := harms[(fuse+i)%len(harms)]
					ahead := whole.Copy()
					h.all(ahead, c, set)
					cut(t, c, ahead, call.do, fuse, func(*array.Array) {})
					cut(t, c, whole, call.do, fuse, func(a *array.Array) { h.all(a, c, set) })
					if t.Failed() {
						t.Fatalf("%v: %s, fuse %d of %d, disks %v are %s", c, call.name, fuse, writes, set, h.name)
					}
				}
			}
		}
	}
}

// cut is that call on a copy of the array, and what is opened behind the crash.
func cut(t *testing.T, c api.Conf, whole *array.Array, do func(s *store.Store) api.Errno, fuse int, behind func(a *array.Array)) {
	t.Helper()
	for i, keep := range keeps(c) {
		a := whole.Copy()
		s := goOn(t, a)
		ok(t, "Fuse", a.Fuse(fuse))
		err := do(s)
		ok(t, "Crash", a.Crash(keep))
		behind(a)
		s = opened(t, a)
		if !isBegun(t, s, begun, err) {
			t.Errorf("keep %v: %d: %v", keep, err, pairsOf(t, s))
		}
		if i%5 == 0 {
			lives(t, a, s)
		}
	}
}

// An Update writes nothing: a crash leaves what was synced.
func TestCrashInUpdate(t *testing.T) { // P23.2, P23.5
	for _, c := range crashed {
		whole := start(t, c)
		for _, set := range bad(c) {
			for _, h := range harms {
				for _, keep := range keeps(c) {
					a := whole.Copy()
					h.all(a, c, set)
					s := opened(t, a)
					ok(t, "Fuse", a.Fuse(0))
					for _, l := range begun.waits {
						ok(t, "Update", s.Update(l))
					}
					begun.is(t, "Update", s)
					ok(t, "Crash", a.Crash(keep))
					plain{synced: begun.synced}.is(t, "a crash", opened(t, a))
				}
			}
		}
	}
}

// A crash is tried at each write of an Open that follows a crash, again with
// each choice of what is kept. What a store that was opened tells stays.
func TestCrashInOpen(t *testing.T) { // P23.1, P23.5
	for _, c := range crashed {
		whole := start(t, c)
		for _, call := range calls {
			writes := writesOf(t, whole, call.do)
			for fuse := range writes + 1 {
				ahead := whole.Copy()
				set := bad(c)[fuse%(conf.Disks(c)+1)]
				harms[fuse%len(harms)].all(ahead, c, set)
				s := goOn(t, ahead)
				ok(t, "Fuse", ahead.Fuse(fuse))
				call.do(s)
				ok(t, "Crash", ahead.Crash(bitsOf(fuse*5, 6)))
				cutOpen(t, c, ahead)
				if t.Failed() {
					t.Fatalf("%v: %s, fuse %d of %d, disks %v", c, call.name, fuse, writes, set)
				}
			}
		}
	}
}

func cutOpen(t *testing.T, c api.Conf, whole *array.Array) {
	t.Helper()
	want := pairsOf(t, opened(t, whole.Copy()))
	isDone := false
	for fuse := 0; !isDone; fuse++ {
		for i, keep := range keeps(c) {
			a := whole.Copy()
			ok(t, "Fuse", a.Fuse(fuse))
			s, err := store.Open(a, id)
			isDone = err == api.OK
			if isDone && (s == nil || !maps.Equal(pairsOf(t, s), want)) || !isDone && (s != nil || err != api.ErrPower) {
				t.Errorf("fuse %d: %v, %d", fuse, s, err)
			}
			ok(t, "Crash", a.Crash(keep))
			s = opened(t, a)
			if !maps.Equal(pairsOf(t, s), want) {
				t.Errorf("fuse %d, keep %v: %v, not %v", fuse, keep, pairsOf(t, s), want)
			}
			if i%5 == 0 {
				lives(t, a, s)
			}
		}
	}
}

// Disks may be bad one after the other, if they are mended in between: by scrub,
// or by a rebuild that crashes cut.
func TestMendedStoreStandsAgain(t *testing.T) { // P23.5, P4
	for _, c := range crashed {
		a := start(t, c)
		s := goOn(t, a)
		for d := range 3 * conf.Disks(c) {
			d %= conf.Disks(c)
			r, err := rebuild.Start(a, s.Volume(), d)
			ok(t, "Start", err)
			isDone := false
			for step := 0; !isDone; step++ {
				ok(t, "Fuse", a.Fuse(step))
				isDone, err = r.Step(1)
				if err == api.ErrPower {
					ok(t, "Crash", a.Crash(bitsOf(step, 4)))
					s = goOn(t, a)
					ok(t, "Again", r.Again(s.Volume()))
				}
			}
			ok(t, "Crash", a.Crash(nil))
			s = goOn(t, a)
			for _, set := range bad(c) {
				x := a.Copy()
				harms[0].all(x, c, set)
				plain{synced: begun.synced}.is(t, "behind a rebuild", opened(t, x))
				harms[1].all(x, c, set)
				y := opened(t, x)
				_, err := scrub.All(y.Volume())
				ok(t, "scrub.All", err)
				if many, err := rebuild.Stands(y.Volume()); many != c.M || err != api.OK {
					t.Errorf("%v: %d disks more may fail, %d", c, many, err)
				}
			}
		}
	}
}
