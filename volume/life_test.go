package volume_test

import (
	"math/rand"
	"slices"
	"strconv"
	"testing"

	"sheetpile/api"
	"sheetpile/array"
	"sheetpile/conf"
	"sheetpile/volume"
)

// life is a volume beside the plain texts that it should have. Disks that are
// bad are at most M: they fail, or are blank, or have sectors that are changed.
type life struct {
	t       *testing.T
	random  *rand.Rand
	c       api.Conf
	a       *array.Array
	v       *volume.Volume
	texts   []string
	written [][]string // all that each stripe ever had
	bad     map[int]bool
	before  disks // what disks had some time ago
	many    int   // how many texts there were
}

func begin(t *testing.T, c api.Conf, seed int64) *life {
	a, v := made(t, c)
	l := &life{t: t, random: rand.New(rand.NewSource(seed)), c: c, a: a, v: v, texts: make([]string, c.Stripes), bad: map[int]bool{}, before: dump(a, conf.Sectors(c))}
	l.written = make([][]string, c.Stripes)
	for n := range l.written {
		l.written[n] = []string{""}
	}
	return l
}

func (l *life) stripe() int { return l.random.Intn(l.c.Stripes) }

// text is one that no stripe had yet.
func (l *life) text() string {
	l.many++
	s := strconv.Itoa(l.many)
	return s + fill(l.random.Intn(conf.Capacity(l.c)-len(s)+1))
}

func (l *life) look() {
	l.t.Helper()
	reads(l.t, "life", l.v, l.texts...)
}

// canWrite is whether Write promises it.
func (l *life) canWrite() bool {
	for d := range l.c.M + 1 {
		if l.a.Alive(d) {
			return true
		}
	}
	return false
}

func (l *life) write() {
	n, s := l.stripe(), l.text()
	ok(l.t, "Write", l.v.Write(n, s))
	l.texts[n] = s
	l.written[n] = append(l.written[n], s)
}

// crash cuts a Write, and maybe the Open behind it.
func (l *life) crash() {
	n, s := l.stripe(), l.text()
	ok(l.t, "Fuse", l.a.Fuse(l.random.Intn(2*(l.c.K+l.c.M))))
	err := l.v.Write(n, s)
	l.drop()
	for l.random.Intn(2) == 0 {
		ok(l.t, "Fuse", l.a.Fuse(l.random.Intn(8)))
		volume.Open(l.a, id)
		l.drop()
	}
	l.v = opened(l.t, l.a)
	got, _ := l.v.Read(n)
	if err == api.OK || got == s {
		l.texts[n] = s
		l.written[n] = append(l.written[n], s)
	}
	l.look()
}

func (l *life) drop() {
	keep := make([]bool, 4*(l.c.K+l.c.M))
	for i := range keep {
		keep[i] = l.random.Intn(2) == 0
	}
	ok(l.t, "Crash", l.a.Crash(keep))
}

// damage does something bad to a disk.
func (l *life) damage(d int) {
	l.bad[d] = true
	switch l.random.Intn(4) {
	case 0:
		ok(l.t, "Fail", l.a.Fail(d))
	case 1:
		ok(l.t, "Replace", l.a.Replace(d))
	default:
		for range 3 {
			l.change(d, l.random.Intn(conf.Sectors(l.c)))
		}
	}
}

// change makes a sector junk, another one's, or what it was some time ago.
func (l *life) change(d int, n int) {
	s, err := l.a.Read(d, n)
	if err != api.OK {
		return
	}
	switch l.random.Intn(4) {
	case 0:
		s = "junk"
	case 1:
		s, _ = l.a.Read((d+1)%(l.c.K+l.c.M), n)
	case 2:
		s, _ = l.a.Read(d, (n+1)%conf.Sectors(l.c))
	case 3:
		if l.before[d] != nil {
			s = l.before[d][n]
		}
	}
	ok(l.t, "Corrupt", l.a.Corrupt(d, n, s))
}

// mend makes all disks good again.
func (l *life) mend() {
	for d := range l.c.K + l.c.M {
		if !l.a.Alive(d) {
			ok(l.t, "Replace", l.a.Replace(d))
		}
	}
	_, err := l.v.Heads()
	ok(l.t, "Heads", err)
	for n := range l.c.Stripes {
		_, err := l.v.Mend(n)
		ok(l.t, "Mend", err)
	}
	healthy(l.t, "mended", l.v, l.c.K+l.c.M)
	clear(l.bad)
}

func (l *life) step() {
	switch what := l.random.Intn(10); {
	case what < 4:
		if l.canWrite() {
			l.write()
		}
	case what < 6:
		d := l.random.Intn(l.c.K + l.c.M)
		if l.bad[d] || len(l.bad) < l.c.M {
			l.damage(d)
		}
	case what < 7:
		l.mend()
	case what < 8:
		l.crash()
	case what < 9:
		l.v = opened(l.t, l.a)
	case len(l.bad) == 0:
		l.before = dump(l.a, conf.Sectors(l.c))
	}
	l.look()
}

// As long as at most M disks are bad, each stripe is what was written last.
func TestLife(t *testing.T) { // P16.2 to P16.5
	for seed, c := range append(layouts, api.Conf{K: 4, M: 3, Shard: 8, Stripes: 5, Slots: 4}) {
		for round := range 4 {
			l := begin(t, c, int64(10*seed+round))
			for range 300 {
				l.step()
				if t.Failed() {
					t.Fatalf("layout %v, round %d", c, round)
				}
			}
		}
	}
}

// However many disks are bad, no text is told that was not written there.
func TestMoreDamage(t *testing.T) { // P16.5, P16.4, R1
	for seed, c := range layouts {
		for round := range 150 {
			l := begin(t, c, int64(1000*seed+round))
			for range 12 {
				l.write()
				if l.random.Intn(4) == 0 {
					l.before = dump(l.a, conf.Sectors(c))
				}
			}
			for range 1 + l.random.Intn(2*(c.K+c.M)) {
				l.damage(l.random.Intn(c.K + c.M))
			}
			l.lookAtLost(l.v)
			v, err := volume.Open(l.a, id)
			if err != api.OK && err != api.ErrLost {
				t.Errorf("%v, round %d: Open: %d", c, round, err)
			}
			if v != nil {
				l.lookAtLost(v)
				l.a.Crash(nil)
				l.lookAtLost(v)
			}
		}
	}
}

// lookAtLost holds Read, Health and Mend against each other.
func (l *life) lookAtLost(v *volume.Volume) {
	l.t.Helper()
	for n := range l.c.Stripes {
		s, err := v.Read(n)
		if err != api.OK && (err != api.ErrLost || s != "") || err == api.OK && !slices.Contains(l.written[n], s) {
			l.t.Errorf("%v: Read(%d): %q, %d, but there were %q", l.c, n, s, err, l.written[n])
		}
		if many, e := v.Health(n); e != err || err == api.OK && many < l.c.K || err != api.OK && many != 0 {
			l.t.Errorf("%v: Health(%d): %d, %d beside %d", l.c, n, many, e, err)
		}
		if _, e := v.Mend(n); e != err {
			l.t.Errorf("%v: Mend(%d): %d beside %d", l.c, n, e, err)
		}
		if again, e := v.Read(n); again != s || e != err {
			l.t.Errorf("%v: Read(%d), mended: %q, %d instead of %q, %d", l.c, n, again, e, s, err)
		}
	}
}
