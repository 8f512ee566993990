package scrub_test

import (
	"slices"
	"strconv"
	"testing"

	"sheetpile/api"
	"sheetpile/array"
	"sheetpile/conf"
	"sheetpile/scrub"
	"sheetpile/volume"
)

const id = 7

// layouts have fewer shards of data than of parity, as many, and more; and one
// stripe, or several.
var layouts = []api.Conf{
	{K: 1, M: 1, Shard: 16, Stripes: 1, Slots: 1},
	{K: 1, M: 2, Shard: 17, Stripes: 2, Slots: 3},
	{K: 2, M: 2, Shard: 8, Stripes: 4, Slots: 2},
	{K: 3, M: 1, Shard: 8, Stripes: 3, Slots: 1},
}

// wide is the layout of tests that need no other one.
var wide = layouts[2]

func textOf(n int) string { return "text" + strconv.Itoa(n) }

// fresh is an array, and a volume on it that has a text in each stripe.
func fresh(t *testing.T, c api.Conf) (*array.Array, *volume.Volume) {
	t.Helper()
	a, err := array.New(conf.Disks(c), conf.Sectors(c), conf.Size(c))
	ok(t, "array.New", err)
	v, err := volume.Make(a, c, id)
	if v == nil || err != api.OK {
		t.Fatalf("volume.Make(%v): %d", c, err)
	}
	for n := range c.Stripes {
		if err := v.Write(n, textOf(n)); err != api.OK {
			t.Fatalf("Write(%d): %d", n, err)
		}
	}
	return a, v
}

func ok(t *testing.T, what string, err api.Errno) {
	t.Helper()
	if err != api.OK {
		t.Errorf("%s: %d", what, err)
	}
}

// disks are the sectors of each disk; a disk that does not work has none.
type disks [][]string

func dump(a *array.Array, c api.Conf) disks {
	w := make(disks, a.Disks())
	for d := range w {
		if !a.Alive(d) {
			continue
		}
		w[d] = make([]string, conf.Sectors(c))
		for n := range w[d] {
			w[d][n], _ = a.Read(d, n)
		}
	}
	return w
}

// has holds what is flushed on all disks against want: the writes that wait,
// and the power's going, are undone in a copy.
func has(t *testing.T, what string, a *array.Array, c api.Conf, want disks) {
	t.Helper()
	x := a.Copy()
	ok(t, "Crash", x.Crash(nil))
	for d, got := range dump(x, c) {
		if !slices.Equal(got, want[d]) {
			t.Errorf("%s: disk %d has\n%q\nnot\n%q", what, d, got, want[d])
		}
	}
}

func corrupt(t *testing.T, a *array.Array, d int, place int) {
	t.Helper()
	ok(t, "Corrupt", a.Corrupt(d, place, "junk"))
}

// lose leaves a stripe one shard less than it needs.
func lose(t *testing.T, a *array.Array, c api.Conf, n int) {
	t.Helper()
	for d := range c.M + 1 {
		corrupt(t, a, d, conf.Stripe(c, n))
	}
}

// goDown takes the power away, and writes nothing.
func goDown(t *testing.T, a *array.Array) {
	t.Helper()
	ok(t, "Fuse", a.Fuse(0))
	if a.Write(0, 0, "") != api.ErrPower || !a.Down() {
		t.Fatal("the power is there")
	}
}

// sets are all sets of so many of the disks.
func sets(disks int, many int) [][]int {
	if many == 0 {
		return [][]int{nil}
	}
	var all [][]int
	for d := many - 1; d < disks; d++ {
		for _, set := range sets(d, many-1) {
			all = append(all, append(set, d))
		}
	}
	return all
}

func steps(t *testing.T, v *volume.Volume, from int, many int, want scrub.Report) {
	t.Helper()
	if r, err := scrub.Step(v, from, many); r != want || err != api.OK {
		t.Errorf("%v: Step(%d, %d): %+v, %d, not %+v", v.Conf(), from, many, r, err, want)
	}
}

func stepFails(t *testing.T, v *volume.Volume, from int, many int, want api.Errno) {
	t.Helper()
	if r, err := scrub.Step(v, from, many); r != (scrub.Report{}) || err != want {
		t.Errorf("%v: Step(%d, %d): %+v, %d, not %d alone", v.Conf(), from, many, r, err, want)
	}
}
