package store_test

import (
	"slices"
	"strings"
	"testing"

	"sheetpile/api"
	"sheetpile/conf"
	"sheetpile/store"
)

// large has halves of 32 stripes of 64 bytes.
var large = api.Conf{K: 1, M: 1, Shard: 68, Stripes: 65, Slots: 1}

func TestMergeByHand(t *testing.T) { // P23.4
	a, s := fresh(t, wide)
	for _, l := range [][]api.Change{put("b", "1"), put("a", "2", "b", "3"), gone("a")} {
		ok(t, "Update", s.Update(l))
	}
	ok(t, "Merge", s.Merge())
	if s.Used() != 20 || s.Pending() != 0 || !slices.Equal(s.List(), []string{"b"}) {
		t.Errorf("%d bytes used, %d wait, %q", s.Used(), s.Pending(), s.List())
	}
	synced := textOf(t, [][]api.Change{put("b", "1"), put("a", "2", "b", "3"), gone("a")})
	has(t, "Merge", a, stripesOf(t, wide, "B", synced, textOf(t, [][]api.Change{put("b", "3")})))
}

// merges is that what a store has is merged again and again, with what is
// written ahead of it and behind, and opened behind each.
func merges(t *testing.T, what string, c api.Conf, groups ...[]api.Change) {
	t.Helper()
	a, s := fresh(t, c)
	p := plain{}
	for _, l := range groups {
		p.does(t, s, l)
	}
	names, texts := []string{"A", "B"}, []string{"", ""}
	for round := range 4 {
		p.sync()
		texts[round%2] = textOf(t, p.synced)
		p.merge()
		texts[1-round%2] = textOf(t, compact(p.pairs()))
		ok(t, what, s.Merge())
		p.is(t, what, s)
		has(t, what, a, stripesOf(t, c, names[1-round%2], texts[0], texts[1]))
		p.is(t, what+", opened", opened(t, a))
		if round == 1 {
			s = opened(t, a)
		}
		if round == 2 {
			p.does(t, s, gone("none"))
		}
	}
}

func TestMerge(t *testing.T) { // P23.4, P23.5
	merges(t, "an empty store", large)
	merges(t, "keys that are gone", large, gone("a"), put("a", "1"), gone("a", "b"))
	merges(t, "one key", large, put("a", ""))
	merges(t, "one key, again and again", large, put("a", "1"), put("a", "2"), put("a", "3", "a", "4"))
	merges(t, "some are gone", large, put("c", "1", "b", "2"), gone("c"), put("a", "3", "d", "4"), gone("d"))
	merges(t, "few groups", wide, put("a", "1"), gone("b"))
	for _, n := range []int{1, 2, 63, 64, 65, 66, 127, 128, 129} {
		var groups [][]api.Change
		for pairs := range slices.Chunk(many(n), 2*50) {
			groups = append(groups, put(pairs...))
		}
		merges(t, "many keys", large, groups...)
	}
	for _, c := range layouts {
		merges(t, "each layout", c, put("k", ""))
	}
}

// A log that is full, and of which all is left in the map, goes just in.
func TestMergeOfAFullLog(t *testing.T) { // P23.4
	for _, c := range append(layouts, wide) {
		a, s := fresh(t, c)
		p := plain{}
		p.does(t, s, filling(roomOf(c)))
		p.sync()
		text := textOf(t, p.synced)
		for _, name := range []string{"B", "A", "B"} {
			ok(t, "Merge", s.Merge())
			p.is(t, "Merge", s)
			if other := textOf(t, p.synced); name == "B" {
				has(t, "Merge", a, stripesOf(t, c, name, text, other))
			} else {
				has(t, "Merge", a, stripesOf(t, c, name, other, text))
			}
			p.is(t, "Merge, opened", opened(t, a))
			tells(t, "Update of a full log", s.Update(gone("f")), api.ErrFull)
		}
	}
}

// A Merge makes room, as much as the map does not need.
func TestMergeMakesRoom(t *testing.T) { // P23.4, P23.5
	a, s := fresh(t, wide)
	p := plain{}
	for i := range 100 {
		l := put("k", strings.Repeat("v", i%8))
		if p.update(wide, l) == api.ErrFull {
			tells(t, "Update", s.Update(l), api.ErrFull)
			ok(t, "Merge", s.Merge())
			p.merge()
			p.is(t, "Merge", s)
			p.is(t, "Merge, opened", opened(t, a))
			p.does(t, s, l)
		} else {
			ok(t, "Update", s.Update(l))
		}
		p.is(t, "Update", s)
	}
}

// The other half is cut to nothing, whatever its stripes have.
func TestMergeCutsTheOtherHalf(t *testing.T) { // P23.4
	p := plain{synced: [][]api.Change{put("k", "v")}}
	text := textOf(t, p.synced)
	for _, other := range [][]string{
		{"junk", "", "", ""}, {"", "junk", "", ""}, {"", "", "", "x"},
		halfOf(t, wide, textOf(t, some)), halfOf(t, wide, strings.Repeat("x", roomOf(wide))),
	} {
		stripes := stripesOf(t, wide, "A", text, "")
		copy(stripes[5:], other)
		a := laid(t, wide, stripes...)
		s := opened(t, a)
		ok(t, "Merge", s.Merge())
		p.is(t, "Merge", s)
		has(t, "Merge", a, stripesOf(t, wide, "B", text, text))
		goneAll := plain{synced: slices.Concat(p.synced, [][]api.Change{gone("k")})}
		ok(t, "Update", s.Update(gone("k")))
		ok(t, "Merge", s.Merge())
		plain{}.is(t, "Merge of nothing", s)
		has(t, "Merge of nothing", a, stripesOf(t, wide, "A", "", textOf(t, goneAll.synced)))
	}
}

// Stripes of the other half that are lost end a Merge behind its Sync.
func TestMergeOfLostStripes(t *testing.T) { // P23.4
	for n := 5; n < 9; n++ {
		a, s := fresh(t, wide)
		p := plain{}
		p.does(t, s, put("a", "1"))
		lose(t, a, wide, n)
		tells(t, "Merge", s.Merge(), api.ErrLost)
		p.sync()
		p.is(t, "Merge of a lost half, opened", opened(t, a))
	}
}

// Without power nothing is merged, also if nothing waits.
func TestMergeWithoutPower(t *testing.T) { // P23.4
	for _, groups := range [][][]api.Change{nil, some} {
		a, s := fresh(t, wide)
		p := plain{}
		for _, l := range groups {
			p.does(t, s, l)
		}
		ok(t, "Sync", s.Sync())
		p.sync()
		goDown(t, a)
		tells(t, "Merge", s.Merge(), api.ErrPower)
		ok(t, "Crash", a.Crash(nil))
		p.is(t, "Merge without power, opened", opened(t, a))
	}
}

// What is written, and in which order: the groups that wait, the other half from
// its last stripe on, what is merged, and stripe 0.
func TestWritesOfMerge(t *testing.T) { // P23.4
	a := laid(t, wide, stripesOf(t, wide, "A", textOf(t, some[:1]), strings.Repeat("x", 40))...)
	s := opened(t, a)
	ok(t, "Update", s.Update(put("a", "2")))
	synced := [][]api.Change{some[0], put("a", "2")}
	text, merged := textOf(t, synced), textOf(t, synced[1:])
	x := strings.Repeat("x", 40)
	steps := [][]string{
		stripesOf(t, wide, "A", textOf(t, some[:1]), x),
		stripesOf(t, wide, "A", text[:32], x),
		stripesOf(t, wide, "A", text, x),
		stripesOf(t, wide, "A", text, x[:32]),
		stripesOf(t, wide, "A", text, x[:16]),
		stripesOf(t, wide, "A", text, ""),
		stripesOf(t, wide, "A", text, merged[:16]),
		stripesOf(t, wide, "A", text, merged),
		stripesOf(t, wide, "B", text, merged),
	}
	each := wide.M + 1 + conf.Disks(wide)
	for done, want := range steps {
		x := a.Copy()
		s, err := store.Open(x, id)
		ok(t, "Open", err)
		ok(t, "Update", s.Update(put("a", "2")))
		ok(t, "Fuse", x.Fuse(done*each))
		if done < len(steps)-1 {
			tells(t, "Merge", s.Merge(), api.ErrPower)
		} else {
			ok(t, "Merge", s.Merge())
			tells(t, "one write more", x.Write(0, 0, ""), api.ErrPower)
		}
		has(t, "Merge", x, want)
	}
}
