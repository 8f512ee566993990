package store_test

import (
	"slices"
	"strconv"
	"strings"
	"testing"

	"sheetpile/api"
	"sheetpile/array"
	"sheetpile/conf"
	"sheetpile/dir"
	"sheetpile/scan"
	"sheetpile/store"
	"sheetpile/volume"
)

const id = 7

// layouts have fewer shards of data than of parity, as many, and more; and
// halves of one stripe or several, with and without one that is in neither.
var layouts = []api.Conf{
	{K: 2, M: 1, Shard: 16, Stripes: 3, Slots: 1},
	{K: 1, M: 1, Shard: 32, Stripes: 4, Slots: 2},
	{K: 1, M: 2, Shard: 16, Stripes: 9, Slots: 2},
	{K: 2, M: 2, Shard: 10, Stripes: 10, Slots: 1},
	{K: 3, M: 1, Shard: 8, Stripes: 11, Slots: 3},
}

// wide is the layout of tests that need no other one: halves of 4 stripes of 16
// bytes.
var wide = api.Conf{K: 2, M: 1, Shard: 10, Stripes: 9, Slots: 2}

func put(pairs ...string) []api.Change {
	var l []api.Change
	for pair := range slices.Chunk(pairs, 2) {
		l = append(l, api.Change{Key: pair[0], Value: pair[1]})
	}
	return l
}

func gone(keys ...string) []api.Change {
	var l []api.Change
	for _, k := range keys {
		l = append(l, api.Change{Key: k, Gone: true})
	}
	return l
}

// plain is what a store should be: the groups that its log has, and those that
// wait.
type plain struct {
	synced [][]api.Change
	waits  [][]api.Change
}

func (p plain) pairs() map[string]string {
	pairs := map[string]string{}
	for _, l := range slices.Concat(p.synced, p.waits) {
		for _, c := range l {
			if c.Gone {
				delete(pairs, c.Key)
			} else {
				pairs[c.Key] = c.Value
			}
		}
	}
	return pairs
}

// size is chapter 19's: how many bytes groups have.
func size(groups [][]api.Change) int {
	n := 0
	for _, l := range groups {
		n += 13
		for _, c := range l {
			n += 3 + len(c.Key)
			if !c.Gone {
				n += 2 + len(c.Value)
			}
		}
	}
	return n
}

func roomOf(c api.Conf) int { return (c.Stripes - 1) / 2 * conf.Capacity(c) }

// update tells what Update should, and does it, if that is nothing.
func (p *plain) update(c api.Conf, l []api.Change) api.Errno {
	if size(p.synced)+size(p.waits)+size([][]api.Change{l}) > roomOf(c) {
		return api.ErrFull
	}
	p.waits = append(p.waits, l)
	return api.OK
}

func (p *plain) sync() {
	p.synced = slices.Concat(p.synced, p.waits)
	p.waits = nil
}

// merge leaves groups of 64 pairs, in the keys' order.
func (p *plain) merge() {
	pairs := p.pairs()
	*p = plain{}
	var l []api.Change
	for _, k := range keysOf(pairs) {
		l = append(l, api.Change{Key: k, Value: pairs[k]})
	}
	for part := range slices.Chunk(l, 64) {
		p.synced = append(p.synced, part)
	}
}

func keysOf(pairs map[string]string) []string {
	var keys []string
	for k := range pairs {
		keys = append(keys, k)
	}
	slices.Sort(keys)
	return keys
}

// is holds what a store tells against this.
func (p plain) is(t *testing.T, what string, s *store.Store) {
	t.Helper()
	pairs := p.pairs()
	if l := s.List(); !slices.Equal(l, keysOf(pairs)) {
		t.Errorf("%s: List: %q, not %q", what, l, keysOf(pairs))
	}
	for k, v := range pairs {
		if got, err := s.Get(k); got != v || err != api.OK {
			t.Errorf("%s: Get(%q): %q, %d, not %q", what, k, got, err, v)
		}
	}
	for _, k := range []string{"", "no such key", "\xff"} {
		if got, err := s.Get(k); got != "" || err != api.ErrNone {
			t.Errorf("%s: Get(%q): %q, %d", what, k, got, err)
		}
	}
	if s.Pending() != len(p.waits) || s.Used() != size(p.synced) {
		t.Errorf("%s: %d wait, %d bytes used, not %d and %d", what, s.Pending(), s.Used(), len(p.waits), size(p.synced))
	}
}

// fresh is a blank array, and a store on it.
func fresh(t *testing.T, c api.Conf) (*array.Array, *store.Store) {
	t.Helper()
	a := blank(t, c)
	s, err := store.Make(a, c, id)
	if s == nil || err != api.OK {
		t.Fatalf("Make(%v): %d", c, err)
	}
	return a, s
}

func blank(t *testing.T, c api.Conf) *array.Array {
	t.Helper()
	a, err := array.New(conf.Disks(c), conf.Sectors(c), conf.Size(c))
	if a == nil || err != api.OK {
		t.Fatalf("array.New of %v: %d", c, err)
	}
	return a
}

func opened(t *testing.T, a *array.Array) *store.Store {
	t.Helper()
	s, err := store.Open(a, id)
	if s == nil || err != api.OK {
		t.Fatalf("Open: %d", err)
	}
	return s
}

// laid is an array with a volume, whose stripes have just this.
func laid(t *testing.T, c api.Conf, stripes ...string) *array.Array {
	t.Helper()
	a := blank(t, c)
	v, err := volume.Make(a, c, id)
	ok(t, "volume.Make", err)
	for n, s := range stripes {
		if s != "" {
			ok(t, "volume.Write", v.Write(n, s))
		}
	}
	return a
}

// halfOf is what the stripes of a half have, if its log has this text.
func halfOf(t *testing.T, c api.Conf, text string) []string {
	t.Helper()
	if len(text) > roomOf(c) {
		t.Fatalf("%v: no room for %d bytes", c, len(text))
	}
	parts := make([]string, (c.Stripes-1)/2)
	for n := range parts {
		parts[n] = text[:min(len(text), conf.Capacity(c))]
		text = text[len(parts[n]):]
	}
	return parts
}

// stripesOf are what all stripes of a store have, by its halves.
func stripesOf(t *testing.T, c api.Conf, name string, textA string, textB string) []string {
	t.Helper()
	l := slices.Concat([]string{name}, halfOf(t, c, textA), halfOf(t, c, textB))
	return append(l, make([]string, c.Stripes-len(l))...)
}

// textOf are the bytes of a log of these groups.
func textOf(t *testing.T, groups [][]api.Change) string {
	t.Helper()
	s, err := scan.Write(0, groups)
	ok(t, "scan.Write", err)
	return s
}

// compact are the groups that a Merge leaves of such a map.
func compact(pairs map[string]string) [][]api.Change {
	var l []api.Pair
	for _, k := range keysOf(pairs) {
		l = append(l, api.Pair{Key: k, Value: pairs[k]})
	}
	return dir.Compact(l)
}

// has holds what is flushed on the disks against these stripes.
func has(t *testing.T, what string, a *array.Array, want []string) {
	t.Helper()
	x := a.Copy()
	ok(t, "Crash", x.Crash(nil))
	v, err := volume.Open(x, id)
	if v == nil || err != api.OK {
		t.Fatalf("%s: volume.Open: %d", what, err)
	}
	for n, w := range want {
		if s, err := v.Read(n); s != w || err != api.OK {
			t.Errorf("%s: stripe %d has %q, %d, not %q", what, n, s, err, w)
		}
	}
}

// sectors are what all disks have that work.
func sectors(a *array.Array, c api.Conf) []string {
	var list []string
	for d := range a.Disks() {
		for n := range conf.Sectors(c) {
			s, err := a.Read(d, n)
			if err == api.OK {
				list = append(list, s)
			}
		}
	}
	return list
}

func ok(t *testing.T, what string, err api.Errno) {
	t.Helper()
	if err != api.OK {
		t.Errorf("%s: %d", what, err)
	}
}

func tells(t *testing.T, what string, err api.Errno, want api.Errno) {
	t.Helper()
	if err != want {
		t.Errorf("%s: %d, not %d", what, err, want)
	}
}

// goDown takes the power away, and writes nothing; a disk works.
func goDown(t *testing.T, a *array.Array) {
	t.Helper()
	ok(t, "Fuse", a.Fuse(0))
	for d := range a.Disks() {
		a.Write(d, 0, "")
	}
	if !a.Down() {
		t.Fatal("the power is there")
	}
}

// lose leaves a stripe one shard less than it needs, and no intents, of which it
// might be written again.
func lose(t *testing.T, a *array.Array, c api.Conf, n int) {
	t.Helper()
	for d := range c.M + 1 {
		ok(t, "Corrupt", a.Corrupt(d, conf.Stripe(c, n), "junk"))
		for seq := range c.Slots {
			ok(t, "Corrupt", a.Corrupt(d, conf.Slot(c, seq), "junk"))
		}
	}
}

// many are so many pairs, in the keys' order.
func many(n int) []string {
	var l []string
	for i := range n {
		l = append(l, strconv.Itoa(1000+i), strconv.Itoa(i))
	}
	return l
}

// filling is a group of one change of its own, that has just so many bytes.
func filling(bytes int) []api.Change { return put("f", strings.Repeat("v", bytes-19)) }
