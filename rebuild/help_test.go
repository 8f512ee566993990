package rebuild_test

import (
	"slices"
	"strconv"
	"testing"

	"sheetpile/api"
	"sheetpile/array"
	"sheetpile/conf"
	"sheetpile/rebuild"
	"sheetpile/volume"
)

const id = 7

// layouts have fewer shards of data than of parity, as many, and more; and one
// stripe, or several.
var layouts = []api.Conf{
	{K: 1, M: 1, Shard: 16, Stripes: 1, Slots: 1},
	{K: 1, M: 2, Shard: 17, Stripes: 2, Slots: 3},
	{K: 2, M: 2, Shard: 8, Stripes: 4, Slots: 2},
	{K: 3, M: 1, Shard: 8, Stripes: 3, Slots: 1},
}

// wide is the layout of tests that need no other one.
var wide = layouts[2]

func textsOf(c api.Conf) []string {
	texts := make([]string, c.Stripes)
	for n := range texts {
		texts[n] = "text" + strconv.Itoa(n)
	}
	return texts
}

// fresh is an array, and a volume on it that has a text in each stripe.
func fresh(t *testing.T, c api.Conf) (*array.Array, *volume.Volume) {
	t.Helper()
	a, err := array.New(conf.Disks(c), conf.Sectors(c), conf.Size(c))
	ok(t, "array.New", err)
	v, err := volume.Make(a, c, id)
	if v == nil || err != api.OK {
		t.Fatalf("volume.Make(%v): %d", c, err)
	}
	for n, s := range textsOf(c) {
		if err := v.Write(n, s); err != api.OK {
			t.Fatalf("Write(%d): %d", n, err)
		}
	}
	return a, v
}

func ok(t *testing.T, what string, err api.Errno) {
	t.Helper()
	if err != api.OK {
		t.Errorf("%s: %d", what, err)
	}
}

func opened(t *testing.T, a *array.Array) *volume.Volume {
	t.Helper()
	v, err := volume.Open(a, id)
	if v == nil || err != api.OK {
		t.Fatalf("volume.Open: %d", err)
	}
	return v
}

func started(t *testing.T, a *array.Array, v *volume.Volume, d int) *rebuild.Rebuild {
	t.Helper()
	r, err := rebuild.Start(a, v, d)
	if r == nil || err != api.OK {
		t.Fatalf("Start of disk %d: %d", d, err)
	}
	return r
}

// step is one that answers done, and leaves so many stripes.
func step(t *testing.T, r *rebuild.Rebuild, many int, done bool, err api.Errno, left int) {
	t.Helper()
	if gotDone, gotErr := r.Step(many); gotDone != done || gotErr != err || r.Left() != left {
		t.Errorf("Step(%d): %v, %d, and %d left, not %v, %d, and %d", many, gotDone, gotErr, r.Left(), done, err, left)
	}
}

func stands(t *testing.T, v *volume.Volume, want int, wantErr api.Errno) {
	t.Helper()
	if many, err := rebuild.Stands(v); many != want || err != wantErr {
		t.Errorf("%v: Stands: %d, %d, not %d, %d", v.Conf(), many, err, want, wantErr)
	}
}

// disks are the sectors of each disk; a disk that does not work has none.
type disks [][]string

func dump(a *array.Array, c api.Conf) disks {
	w := make(disks, a.Disks())
	for d := range w {
		if !a.Alive(d) {
			continue
		}
		w[d] = make([]string, conf.Sectors(c))
		for n := range w[d] {
			w[d][n], _ = a.Read(d, n)
		}
	}
	return w
}

// has holds what is flushed on all disks against want: the writes that wait,
// and the power's going, are undone in a copy.
func has(t *testing.T, what string, a *array.Array, c api.Conf, want disks) {
	t.Helper()
	x := a.Copy()
	ok(t, "Crash", x.Crash(nil))
	for d, got := range dump(x, c) {
		if (got == nil) != (want[d] == nil) || !slices.Equal(got, want[d]) {
			t.Errorf("%s: disk %d has\n%q\nnot\n%q", what, d, got, want[d])
		}
	}
}

// lose leaves a stripe one shard less than it needs.
func lose(t *testing.T, a *array.Array, c api.Conf, n int) {
	t.Helper()
	for d := range c.M + 1 {
		ok(t, "Corrupt", a.Corrupt(d, conf.Stripe(c, n), "junk"))
	}
}

// goDown takes the power away, and writes nothing; disk 0 works.
func goDown(t *testing.T, a *array.Array) {
	t.Helper()
	ok(t, "Fuse", a.Fuse(0))
	if a.Write(0, 0, "") != api.ErrPower || !a.Down() {
		t.Fatal("the power is there")
	}
}

// sets are all sets of so many of the disks.
func sets(disks int, many int) [][]int {
	if many == 0 {
		return [][]int{nil}
	}
	var all [][]int
	for d := many - 1; d < disks; d++ {
		for _, set := range sets(d, many-1) {
			all = append(all, append(set, d))
		}
	}
	return all
}

func reads(t *testing.T, what string, v *volume.Volume, want []string) {
	t.Helper()
	for n, w := range want {
		if s, err := v.Read(n); s != w || err != api.OK {
			t.Errorf("%s: Read(%d): %q, %d, not %q", what, n, s, err, w)
		}
	}
}

// anyMayFail is that each M of the disks may fail, and what is opened then has
// these texts.
func anyMayFail(t *testing.T, what string, a *array.Array, v *volume.Volume, texts []string) {
	t.Helper()
	c := v.Conf()
	stands(t, v, c.M, api.OK)
	for _, set := range sets(a.Disks(), c.M) {
		x := a.Copy()
		ok(t, "Crash", x.Crash(nil))
		for _, d := range set {
			ok(t, "Fail", x.Fail(d))
		}
		reads(t, what, opened(t, x), texts)
	}
}
