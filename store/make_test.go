package store_test

import (
	"math"
	"slices"
	"testing"

	"sheetpile/api"
	"sheetpile/array"
	"sheetpile/conf"
	"sheetpile/store"
)

func TestMake(t *testing.T) { // P23.1
	for _, c := range append(layouts, wide) {
		for stripes := 3; stripes <= 12; stripes++ {
			c.Stripes = stripes
			a, s := fresh(t, c)
			plain{}.is(t, "Make", s)
			if s.Volume().Conf() != c || s.Volume().Seq() != 1 {
				t.Errorf("%v: %v, Seq %d", c, s.Volume().Conf(), s.Volume().Seq())
			}
			has(t, "Make", a, stripesOf(t, c, "A", "", ""))
			plain{}.is(t, "Make, opened", opened(t, a))
		}
	}
}

// Each half is half the stripes behind stripe 0; what is left over is in neither.
func TestHalves(t *testing.T) { // P23.1 to P23.4
	for stripes := 3; stripes <= 12; stripes++ {
		c := api.Conf{K: 1, M: 1, Shard: 32, Stripes: stripes, Slots: 1}
		a, s := fresh(t, c)
		l := [][]api.Change{filling(roomOf(c))}
		ok(t, "Update", s.Update(l[0]))
		tells(t, "Update of one more", s.Update(gone("k")), api.ErrFull)
		ok(t, "Sync", s.Sync())
		has(t, "Sync", a, stripesOf(t, c, "A", textOf(t, l), ""))
		ok(t, "Merge", s.Merge())
		has(t, "Merge", a, stripesOf(t, c, "B", textOf(t, l), textOf(t, l)))
	}
}

func TestMakeOfNumbers(t *testing.T) { // P23.1
	for _, n := range []int{0, 1, math.MaxUint32} {
		a := blank(t, wide)
		s, err := store.Make(a, wide, n)
		ok(t, "Make", err)
		ok(t, "Update", s.Update(put("a", "1")))
		ok(t, "Sync", s.Sync())
		s, err = store.Open(a, n)
		ok(t, "Open", err)
		plain{synced: [][]api.Change{put("a", "1")}}.is(t, "Open", s)
	}
}

func TestMakeOfWrongLayouts(t *testing.T) { // P23.1, R2, R3
	wrong := []api.Conf{{}}
	for _, change := range []func(c *api.Conf){
		func(c *api.Conf) { c.K = 0 },
		func(c *api.Conf) { c.K = 254 },
		func(c *api.Conf) { c.M = 0 },
		func(c *api.Conf) { c.M = -1 },
		func(c *api.Conf) { c.Shard = 7 },
		func(c *api.Conf) { c.Shard = 1025 },
		func(c *api.Conf) { c.Slots = 0 },
		func(c *api.Conf) { c.Slots = 17 },
		func(c *api.Conf) { c.Stripes = math.MinInt },
		func(c *api.Conf) { c.Stripes = -1 },
		func(c *api.Conf) { c.Stripes = 0 },
		func(c *api.Conf) { c.Stripes = 1 },
		func(c *api.Conf) { c.Stripes = 2 },
		func(c *api.Conf) { c.Stripes = 1001 },
		func(c *api.Conf) { c.Stripes = math.MaxInt },
	} {
		c := wide
		change(&c)
		wrong = append(wrong, c)
	}
	a := blank(t, wide)
	before := sectors(a, wide)
	for _, c := range wrong {
		for _, x := range []*array.Array{nil, new(array.Array), a, down(t)} {
			for _, n := range []int{-1, id} {
				if s, err := store.Make(x, c, n); s != nil || err != api.ErrArg {
					t.Errorf("Make(%v): %v, %d", c, s, err)
				}
			}
		}
	}
	if !slices.Equal(sectors(a, wide), before) {
		t.Error("Make of a wrong layout wrote")
	}
}

// down is a wide blank array without power.
func down(t *testing.T) *array.Array {
	t.Helper()
	a := blank(t, wide)
	goDown(t, a)
	return a
}

func TestMakeOfWrongArrays(t *testing.T) { // P23.1, R2, R3
	made := func(disks int, sectors int, size int) *array.Array {
		a, err := array.New(disks, sectors, size)
		ok(t, "array.New", err)
		return a
	}
	disks, most, size := conf.Disks(wide), conf.Sectors(wide), conf.Size(wide)
	failed := blank(t, wide)
	ok(t, "Fail", failed.Fail(1))
	failedAndDown := down(t)
	ok(t, "Fail", failedAndDown.Fail(1))
	for i, x := range []struct {
		a    *array.Array
		id   int
		want api.Errno
	}{
		{nil, id, api.ErrArg},
		{nil, -1, api.ErrArg},
		{new(array.Array), id, api.ErrArg},
		{made(disks-1, most, size), id, api.ErrArg},
		{made(disks+1, most, size), id, api.ErrArg},
		{made(disks, most, size), -1, api.ErrArg},
		{made(disks, most, size), math.MinInt, api.ErrArg},
		{made(disks, most, size), math.MaxUint32 + 1, api.ErrArg},
		{down(t), math.MaxUint32 + 1, api.ErrArg},
		{down(t), id, api.ErrPower},
		{failedAndDown, id, api.ErrPower},
		{failed, id, api.ErrGone},
		{made(disks, most-1, size), id, api.ErrArg},
		{made(disks, most, 8), id, api.ErrBig},
		{made(disks, most, size), id, api.OK},
		{made(disks, most+1, size+1), id, api.OK},
	} {
		if s, err := store.Make(x.a, wide, x.id); (s == nil) != (x.want != api.OK) || err != x.want {
			t.Errorf("case %d: %v, %d, not %d", i, s, err, x.want)
		}
	}
}

// A power that goes at any write of Make leaves no store, or, if the intent of
// stripe 0 was flushed, an empty one.
func TestMakeIsCut(t *testing.T) { // P23.1, P23.5
	for _, c := range layouts {
		disks := conf.Disks(c)
		all := disks*(1+c.Stripes) + c.M + 1 + disks
		for fuse := range all + 1 {
			a := blank(t, c)
			ok(t, "Fuse", a.Fuse(fuse))
			s, err := store.Make(a, c, id)
			if fuse < all && (s != nil || err != api.ErrPower) || fuse == all && (s == nil || err != api.OK) {
				t.Errorf("%v, fuse %d of %d: %v, %d", c, fuse, all, s, err)
			}
			ok(t, "Crash", a.Crash(nil))
			if fuse >= all-disks {
				plain{}.is(t, "Make is cut, opened", opened(t, a))
			} else if s, err := store.Open(a, id); s != nil || err != api.ErrLost {
				t.Errorf("%v, fuse %d of %d: Open: %v, %d", c, fuse, all, s, err)
			}
		}
	}
}

func TestNoStore(t *testing.T) { // P23.1, R1, R3
	var none *store.Store
	for _, l := range [][]api.Change{nil, put("a", "1"), put("", ""), gone("a")} {
		tells(t, "nil: Update", none.Update(l), api.ErrArg)
	}
	for _, k := range []string{"", "a"} {
		if v, err := none.Get(k); v != "" || err != api.ErrArg {
			t.Errorf("nil: Get(%q): %q, %d", k, v, err)
		}
	}
	tells(t, "nil: Sync", none.Sync(), api.ErrArg)
	tells(t, "nil: Merge", none.Merge(), api.ErrArg)
	if len(none.List()) != 0 || none.Pending() != 0 || none.Used() != 0 || none.Volume() != nil {
		t.Error("nil is a store")
	}
}

// One that neither Make nor Open made has no room for anything.
func TestBareStore(t *testing.T) { // R1
	s := new(store.Store)
	tells(t, "Update", s.Update(put("a", "1")), api.ErrFull)
	s.Sync()
	s.Merge()
	if v, err := s.Get("a"); v != "" || err != api.ErrNone {
		t.Errorf("Get: %q, %d", v, err)
	}
	if len(s.List()) != 0 || s.Pending() != 0 || s.Used() != 0 || s.Volume() != nil {
		t.Error("it has something")
	}
}
