package rebuild_test

import (
	"math/rand"
	"strconv"
	"testing"

	"sheetpile/api"
	"sheetpile/array"
	"sheetpile/conf"
	"sheetpile/rebuild"
	"sheetpile/volume"
)

// life is a volume beside the plain texts that it should have.
type life struct {
	t       *testing.T
	random  *rand.Rand
	c       api.Conf
	a       *array.Array
	v       *volume.Volume
	texts   []string
	many    int // how many texts there were
	crashes int
}

func begin(t *testing.T, c api.Conf, seed int64) *life {
	a, v := fresh(t, c)
	return &life{t: t, random: rand.New(rand.NewSource(seed)), c: c, a: a, v: v, texts: textsOf(c)}
}

// write is cut by the power, if there is a fuse that is too short.
func (l *life) write() {
	n := l.random.Intn(l.c.Stripes)
	l.many++
	s := strconv.Itoa(l.many)
	err := l.v.Write(n, s)
	if err == api.ErrPower {
		l.crash()
		// It is as it was, or as it was to be.
		if got, _ := l.v.Read(n); got != s {
			return
		}
	} else {
		ok(l.t, "Write", err)
	}
	l.texts[n] = s
}

// crash keeps some of what waits; Open may be cut, too.
func (l *life) crash() {
	for {
		keep := make([]bool, 4*l.a.Disks())
		for i := range keep {
			keep[i] = l.random.Intn(2) == 0
		}
		ok(l.t, "Crash", l.a.Crash(keep))
		if l.random.Intn(2) == 0 {
			break
		}
		ok(l.t, "Fuse", l.a.Fuse(l.random.Intn(4)))
		volume.Open(l.a, id)
	}
	l.v = opened(l.t, l.a)
}

// damage makes up to M disks bad, of which one is failed.
func (l *life) damage() int {
	bad := l.random.Perm(l.a.Disks())[:l.c.M]
	for _, d := range bad[1:] {
		for range l.random.Intn(conf.Sectors(l.c)) {
			ok(l.t, "Corrupt", l.a.Corrupt(d, l.random.Intn(conf.Sectors(l.c)), "junk"))
		}
	}
	ok(l.t, "Fail", l.a.Fail(bad[0]))
	return bad[0]
}

// turn is one step of a rebuild, with writes and crashes about it.
func (l *life) turn(r *rebuild.Rebuild) (bool, api.Errno) {
	if l.random.Intn(3) == 0 {
		ok(l.t, "Fuse", l.a.Fuse(l.random.Intn(2*l.a.Disks())))
	}
	if l.random.Intn(2) == 0 {
		l.write()
		ok(l.t, "Again", r.Again(l.v))
	}
	left := r.Left()
	done, err := r.Step(1)
	if err == api.ErrPower {
		if done || r.Left() != left {
			l.t.Errorf("cut: %v, and %d left, not %d", done, r.Left(), left)
		}
		l.crashes++
		l.crash()
		ok(l.t, "Again", r.Again(l.v))
	}
	return done, err
}

// A rebuild is done in as many steps as there are stripes, and one for each
// step that a crash cuts; then M disks may fail.
func TestRebuildEnds(t *testing.T) { // P18.4
	crashes := 0
	for seed, c := range append(layouts, api.Conf{K: 4, M: 3, Shard: 8, Stripes: 6, Slots: 4}) {
		for round := range 50 {
			l := begin(t, c, int64(100*seed+round))
			for range 4 {
				r := started(t, l.a, l.v, l.damage())
				l.crashes = 0
				steps, done := 0, false
				for !done && steps <= c.Stripes+l.crashes {
					done, _ = l.turn(r)
					steps++
				}
				if !done || steps != c.Stripes+l.crashes || r.Left() != 0 {
					t.Errorf("%v: done %v, %d steps, %d crashes, %d left", c, done, steps, l.crashes, r.Left())
				}
				ok(t, "Crash", l.a.Crash(nil))
				anyMayFail(t, "rebuilt", l.a, l.v, l.texts)
				crashes += l.crashes
				if t.Failed() {
					t.Fatalf("%v, round %d", c, round)
				}
			}
		}
	}
	if crashes < 100 {
		t.Errorf("only %d crashes", crashes)
	}
}
