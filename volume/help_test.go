package volume_test

import (
	"slices"
	"strings"
	"testing"

	"sheetpile/api"
	"sheetpile/array"
	"sheetpile/block"
	"sheetpile/conf"
	"sheetpile/intent"
	"sheetpile/stripe"
	"sheetpile/volume"
)

// id is the number of the arrays of these tests, unless they say otherwise.
const id = 7

// maxEpoch is the greatest one that a sector has room for.
const maxEpoch = 1<<56 - 1

var layout = api.Conf{K: 2, M: 1, Shard: 8, Stripes: 3, Slots: 2}

// layouts have fewer shards of data than of parity, as many, and more.
var layouts = []api.Conf{
	{K: 1, M: 1, Shard: 16, Stripes: 2, Slots: 1},
	{K: 1, M: 2, Shard: 17, Stripes: 2, Slots: 3},
	layout,
	{K: 2, M: 2, Shard: 8, Stripes: 3, Slots: 2},
	{K: 3, M: 1, Shard: 8, Stripes: 2, Slots: 2},
}

func arrayOf(t *testing.T, c api.Conf) *array.Array {
	t.Helper()
	a, err := array.New(conf.Disks(c), conf.Sectors(c), conf.Size(c))
	if a == nil || err != api.OK {
		t.Fatalf("array.New for %v: %d", c, err)
	}
	return a
}

func made(t *testing.T, c api.Conf) (*array.Array, *volume.Volume) {
	t.Helper()
	a := arrayOf(t, c)
	v, err := volume.Make(a, c, id)
	if v == nil || err != api.OK {
		t.Fatalf("Make(%v): %d", c, err)
	}
	return a, v
}

func opened(t *testing.T, a *array.Array) *volume.Volume {
	t.Helper()
	v, err := volume.Open(a, id)
	if v == nil || err != api.OK {
		t.Fatalf("Open: %d", err)
	}
	return v
}

func ok(t *testing.T, what string, err api.Errno) {
	t.Helper()
	if err != api.OK {
		t.Errorf("%s: %d", what, err)
	}
}

func seal(t *testing.T, b block.Block) string {
	t.Helper()
	s, err := block.Seal(b)
	if err != api.OK {
		t.Fatalf("block.Seal(%v): %d", b, err)
	}
	return s
}

func headOf(t *testing.T, c api.Conf, d int) string {
	t.Helper()
	text, err := conf.Write(c)
	ok(t, "conf.Write", err)
	return seal(t, block.Block{Array: id, Disk: d, Text: text})
}

func recordOf(t *testing.T, c api.Conf, d int, i intent.Intent) string {
	t.Helper()
	text, err := intent.Write(i)
	ok(t, "intent.Write", err)
	return seal(t, block.Block{Array: id, Disk: d, Place: 1 + i.Seq%c.Slots, Epoch: i.Seq, Text: text})
}

func shardOf(t *testing.T, c api.Conf, d int, n int, epoch int, text string) string {
	t.Helper()
	shards, err := stripe.Split(c, text)
	ok(t, "stripe.Split", err)
	return seal(t, block.Block{Array: id, Disk: d, Place: 1 + c.Slots + n, Epoch: epoch, Text: shards[d]})
}

// disks are the sectors of each disk; a disk that does not work has none.
type disks [][]string

func (w disks) clone() disks {
	var x disks
	for _, sectors := range w {
		x = append(x, slices.Clone(sectors))
	}
	return x
}

// asMade is what Make writes to blank disks.
func asMade(t *testing.T, c api.Conf) disks {
	t.Helper()
	w := make(disks, c.K+c.M)
	for d := range w {
		w[d] = make([]string, 1+c.Slots+c.Stripes)
		w[d][0] = headOf(t, c, d)
		for n := range c.Stripes {
			w[d][1+c.Slots+n] = shardOf(t, c, d, n, 0, "")
		}
	}
	return w
}

// setShards is a stripe as a Write leaves it on the disks that work.
func (w disks) setShards(t *testing.T, c api.Conf, n int, epoch int, text string) {
	t.Helper()
	for d := range w {
		if w[d] != nil {
			w[d][1+c.Slots+n] = shardOf(t, c, d, n, epoch, text)
		}
	}
}

// setRecords is an intent on those of the first M + 1 disks that work.
func (w disks) setRecords(t *testing.T, c api.Conf, i intent.Intent) {
	t.Helper()
	for d := range c.M + 1 {
		if w[d] != nil {
			w[d][1+i.Seq%c.Slots] = recordOf(t, c, d, i)
		}
	}
}

func dump(a *array.Array, sectors int) disks {
	w := make(disks, a.Disks())
	for d := range w {
		if !a.Alive(d) {
			continue
		}
		w[d] = make([]string, sectors)
		for n := range w[d] {
			w[d][n], _ = a.Read(d, n)
		}
	}
	return w
}

// has holds what is read of all disks against want.
func has(t *testing.T, what string, a *array.Array, want disks) {
	t.Helper()
	for d, got := range dump(a, len(slices.MaxFunc(want, func(x, y []string) int { return len(x) - len(y) }))) {
		if (got == nil) != (want[d] == nil) {
			t.Errorf("%s: disk %d works: %v", what, d, got != nil)
		} else if !slices.Equal(got, want[d]) {
			t.Errorf("%s: disk %d has\n%q\nnot\n%q", what, d, got, want[d])
		}
	}
}

// hasFlushed is has, and that none of it waits: a crash leaves it.
func hasFlushed(t *testing.T, what string, a *array.Array, want disks) {
	t.Helper()
	has(t, what, a, want)
	x := a.Copy()
	ok(t, "Crash", x.Crash(nil))
	has(t, what+", behind a crash", x, want)
}

// lay puts sectors on an array's disks, flushed; those of nil do not work.
func lay(t *testing.T, a *array.Array, w disks) {
	t.Helper()
	for d, sectors := range w {
		if sectors == nil {
			ok(t, "Fail", a.Fail(d))
			continue
		}
		ok(t, "Replace", a.Replace(d))
		for n, s := range sectors {
			ok(t, "Corrupt", a.Corrupt(d, n, s))
		}
	}
}

func reads(t *testing.T, what string, v *volume.Volume, want ...string) {
	t.Helper()
	for n, w := range want {
		if s, err := v.Read(n); s != w || err != api.OK {
			t.Errorf("%s: Read(%d): %q, %d, not %q", what, n, s, err, w)
		}
	}
}

func healthy(t *testing.T, what string, v *volume.Volume, want int) {
	t.Helper()
	for n := range v.Conf().Stripes {
		if many, err := v.Health(n); many != want || err != api.OK {
			t.Errorf("%s: Health(%d): %d, %d, not %d", what, n, many, err, want)
		}
	}
}

// goDown takes an array's power away, and writes nothing.
func goDown(t *testing.T, a *array.Array) {
	t.Helper()
	ok(t, "Fuse", a.Fuse(0))
	for d := range a.Disks() {
		a.Write(d, 0, "")
	}
	if !a.Down() {
		t.Fatal("the power is there")
	}
}

// failSet fails the disks whose bits are set.
func failSet(t *testing.T, a *array.Array, set int) {
	t.Helper()
	for d := range a.Disks() {
		if set&(1<<d) != 0 {
			ok(t, "Fail", a.Fail(d))
		}
	}
}

// bitsOf are a set's bits, as Crash takes them.
func bitsOf(set int, many int) []bool {
	keep := make([]bool, many)
	for i := range keep {
		keep[i] = set&(1<<i) != 0
	}
	return keep
}

func fill(many int) string { return strings.Repeat("f", many) }
