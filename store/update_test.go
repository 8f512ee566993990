package store_test

import (
	"slices"
	"strings"
	"testing"

	"sheetpile/api"
	"sheetpile/array"
	"sheetpile/conf"
	"sheetpile/store"
)

// does updates a store, and what it should be.
func (p *plain) does(t *testing.T, s *store.Store, l []api.Change) {
	t.Helper()
	c := s.Volume().Conf()
	tells(t, "Update", s.Update(l), p.update(c, l))
	p.is(t, "Update", s)
}

func TestUpdate(t *testing.T) { // P23.2, P23.3
	c := wide
	c.Stripes = 41
	a, s := fresh(t, c)
	before := sectors(a, c)
	p := plain{}
	for _, l := range [][]api.Change{
		put("b", "1"), put("a", "2"), put("a", "3"), gone("b"), gone("b"), gone("none"),
		put("c", "", "d", "4", "c", "5"), slices.Concat(put("e", "6"), gone("e", "d")),
		slices.Concat(gone("a"), put("a", "7")), put(strings.Repeat("k", 64), "v"), put("\u00e9 \U0001F600", "\x00\xff\n"),
	} {
		p.does(t, s, l)
	}
	if !slices.Equal(sectors(a, c), before) {
		t.Error("Update wrote")
	}
	plain{}.is(t, "nothing was synced", opened(t, a))
	ok(t, "Sync", s.Sync())
	p.sync()
	p.is(t, "Sync", s)
	p.is(t, "Sync, opened", opened(t, a))
	has(t, "Sync", a, stripesOf(t, c, "A", textOf(t, p.synced), ""))
}

func TestUpdateByHand(t *testing.T) { // P23.2, P23.3
	_, s := fresh(t, wide)
	ok(t, "Update", s.Update(put("b", "1", "a", "2")))
	ok(t, "Update", s.Update(slices.Concat(gone("b"), put("c", "%"))))
	if l := s.List(); !slices.Equal(l, []string{"a", "c"}) {
		t.Errorf("List: %q", l)
	}
	if s.Pending() != 2 || s.Used() != 0 {
		t.Errorf("%d wait, %d bytes used", s.Pending(), s.Used())
	}
	ok(t, "Sync", s.Sync())
	if s.Pending() != 0 || s.Used() != 13+7+7+13+4+7 {
		t.Errorf("Sync: %d wait, %d bytes used", s.Pending(), s.Used())
	}
}

// What frame.Check refuses is told ahead of ErrFull, and changes nothing.
func TestUpdateOfWrongChanges(t *testing.T) { // P23.2, R2, R3
	long := strings.Repeat("v", 1025)
	for _, x := range []struct {
		l    []api.Change
		want api.Errno
	}{
		{nil, api.ErrArg},
		{[]api.Change{}, api.ErrArg},
		{put("", "v"), api.ErrKey},
		{put("\x1f", "v"), api.ErrKey},
		{put("\x7f", "v"), api.ErrKey},
		{put("\xff", "v"), api.ErrKey},
		{put(strings.Repeat("k", 65), "v"), api.ErrKey},
		{gone(""), api.ErrKey},
		{put("k", long), api.ErrBig},
		{[]api.Change{{Key: "k", Value: "v", Gone: true}}, api.ErrArg},
		{put("a", "1", "", "2"), api.ErrKey},
		{put("", "1", "b", long), api.ErrKey},
		{put("a", long, "", "2"), api.ErrBig},
		{put(many(65)...), api.ErrBig},
		{put(strings.Split(strings.Repeat("||", 65), "|")[:130]...), api.ErrBig},
		{put(many(64)...), api.ErrFull},
	} {
		a, s := fresh(t, wide)
		before := sectors(a, wide)
		p := plain{}
		for _, l := range [][]api.Change{put("k", "old"), filling(roomOf(wide) - 22)} {
			tells(t, "Update", s.Update(x.l), x.want)
			p.is(t, "a wrong Update", s)
			p.does(t, s, l)
		}
		tells(t, "Update of a full log", s.Update(x.l), x.want)
		p.is(t, "a wrong Update", s)
		if !slices.Equal(sectors(a, wide), before) {
			t.Errorf("%.60v: it wrote", x.l)
		}
		ok(t, "Sync", s.Sync())
		p.sync()
		p.is(t, "a wrong Update, opened", opened(t, a))
		tells(t, "Update of a log without room", s.Update(x.l), x.want)
	}
}

// A group goes in just so, or is one byte too long, be groups synced, waiting,
// both or none.
func TestUpdateOfAFullLog(t *testing.T) { // P23.2, R3
	for _, c := range layouts {
		c.Stripes += 40
		room := roomOf(c)
		for _, synced := range []int{0, 25} {
			for _, waiting := range []int{0, 20, 40} {
				for _, beyond := range []int{0, 1, 2, 50} {
					a, s := fresh(t, c)
					p := plain{}
					if synced > 0 {
						p.does(t, s, filling(synced))
						ok(t, "Sync", s.Sync())
						p.sync()
					}
					for range waiting / 20 {
						p.does(t, s, filling(20))
					}
					left := room - synced - waiting
					tells(t, "Update", s.Update(filling(left+beyond)), p.update(c, filling(left+beyond)))
					p.is(t, "Update", s)
					ok(t, "Sync", s.Sync())
					p.sync()
					p.is(t, "Sync", s)
					p.is(t, "Sync, opened", opened(t, a))
					if beyond == 0 && s.Used() != room {
						t.Errorf("%v: %d bytes used, not %d", c, s.Used(), room)
					}
				}
			}
		}
	}
}

// What is handed in may be changed behind the call, and so may what is answered.
func TestUpdateKeepsNothing(t *testing.T) { // R5
	_, s := fresh(t, wide)
	l := put("a", "1", "b", "2")
	ok(t, "Update", s.Update(l))
	want := plain{waits: [][]api.Change{put("a", "1", "b", "2")}}
	if !slices.Equal(l, want.waits[0]) {
		t.Errorf("Update changed %v", l)
	}
	l[0], l[1] = api.Change{Key: "x"}, api.Change{Key: "y"}
	want.is(t, "a list that is changed", s)
	s.List()[0] = "x"
	want.is(t, "an answer that is changed", s)
}

// What waits is written together: each stripe at most once, and as late as Sync.
func TestSync(t *testing.T) { // P23.2
	for _, c := range layouts {
		c.Stripes += 20
		each := c.M + 1 + conf.Disks(c)
		for _, synced := range []int{0, 20, conf.Capacity(c) * 3} {
			for groups := range 5 {
				a, s := fresh(t, c)
				p := plain{}
				if synced > 0 {
					p.does(t, s, filling(synced))
					ok(t, "Sync", s.Sync())
					p.sync()
				}
				for range groups {
					p.does(t, s, filling(24))
				}
				from, to := synced/conf.Capacity(c), (synced+24*groups-1)/conf.Capacity(c)
				writes := each * (to - from + 1)
				if groups == 0 {
					writes = 0
				}
				ok(t, "Fuse", a.Fuse(writes))
				ok(t, "Sync", s.Sync())
				p.sync()
				p.is(t, "Sync", s)
				tells(t, "one write more", a.Write(0, 0, ""), api.ErrPower)
				ok(t, "Crash", a.Crash(nil))
				p.is(t, "Sync, opened", opened(t, a))
				has(t, "Sync", a, stripesOf(t, c, "A", textOf(t, p.synced), ""))
			}
		}
	}
}

// Sync of nothing needs neither disks nor power.
func TestSyncOfNothing(t *testing.T) { // P23.2
	for _, l := range [][][]api.Change{nil, some} {
		a, s := fresh(t, wide)
		p := plain{}
		for _, group := range l {
			p.does(t, s, group)
		}
		for range 2 {
			ok(t, "Sync", s.Sync())
			p.sync()
			p.is(t, "Sync", s)
		}
		before := sectors(a, wide)
		ok(t, "Sync", s.Sync())
		if !slices.Equal(sectors(a, wide), before) {
			t.Error("Sync of nothing wrote")
		}
		goDown(t, a)
		ok(t, "Sync without power", s.Sync())
		ok(t, "Crash", a.Crash(nil))
		for d := range a.Disks() {
			ok(t, "Fail", a.Fail(d))
		}
		ok(t, "Sync without disks", s.Sync())
		p.is(t, "Sync of nothing", s)
	}
}

// With an error the store is of no use; what is opened then has what was synced.
func TestSyncThatCannot(t *testing.T) { // P23.2, P23.4, P23.5
	p := plain{synced: [][]api.Change{put("a", "1")}}
	for _, call := range []func(s *store.Store) api.Errno{(*store.Store).Sync, (*store.Store).Merge} {
		begun := func() (*array.Array, *store.Store) {
			a, s := fresh(t, wide)
			ok(t, "Update", s.Update(p.synced[0]))
			ok(t, "Sync", s.Sync())
			ok(t, "Update", s.Update(put("a", "2")))
			return a, s
		}
		a, s := begun()
		goDown(t, a)
		tells(t, "without power", call(s), api.ErrPower)
		ok(t, "Crash", a.Crash(nil))
		p.is(t, "without power, opened", opened(t, a))

		a, s = begun()
		for d := range wide.M + 1 {
			ok(t, "Fail", a.Fail(d))
		}
		tells(t, "too few disks", call(s), api.ErrLost)
		opensNot(t, "too few disks", a, id, api.ErrLost)

		a, s = begun()
		for d := range wide.M {
			ok(t, "Fail", a.Fail(d))
		}
		ok(t, "disks enough", call(s))
		if v, err := opened(t, a).Get("a"); v != "2" || err != api.OK {
			t.Errorf("disks enough: %q, %d", v, err)
		}
	}
}

// A store that told an error may be asked anything.
func TestBehindAnError(t *testing.T) { // R1
	for fuse := range 40 {
		a, s := fresh(t, wide)
		ok(t, "Update", s.Update(put("a", "1")))
		ok(t, "Fuse", a.Fuse(fuse))
		s.Merge()
		for range 2 {
			s.Update(put("b", "2"))
			s.Get("a")
			s.List()
			s.Sync()
			s.Merge()
			s.Pending()
			s.Used()
			s.Volume()
		}
	}
}
