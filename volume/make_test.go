package volume_test

import (
	"math"
	"testing"

	"sheetpile/api"
	"sheetpile/array"
	"sheetpile/block"
	"sheetpile/conf"
	"sheetpile/intent"
	"sheetpile/volume"
)

func TestMake(t *testing.T) { // P16.1
	for _, c := range layouts {
		a, v := made(t, c)
		hasFlushed(t, "Make", a, asMade(t, c))
		if v.Seq() != 0 || v.Conf() != c {
			t.Errorf("Make(%v): %d, %v", c, v.Seq(), v.Conf())
		}
		reads(t, "Make", v, make([]string, c.Stripes)...)
		healthy(t, "Make", v, c.K+c.M)
	}
}

func TestMakeAtTheBounds(t *testing.T) { // P16.1
	for _, c := range []api.Conf{
		{K: 1, M: 254, Shard: 8, Stripes: 1, Slots: 1},
		{K: 254, M: 1, Shard: 8, Stripes: 1, Slots: 16},
		{K: 3, M: 1, Shard: 1024, Stripes: 1, Slots: 1},
		{K: 1, M: 1, Shard: 8, Stripes: 1000, Slots: 16},
	} {
		a, v := made(t, c)
		reads(t, "Make", v, make([]string, c.Stripes)...)
		last := c.Stripes - 1
		ok(t, "Write", v.Write(last, fill(conf.Capacity(c))))
		for d := range c.M {
			ok(t, "Fail", a.Fail(d))
		}
		if s, err := opened(t, a).Read(last); s != fill(conf.Capacity(c)) || err != api.OK {
			t.Errorf("%v: Read: %q, %d", c, s, err)
		}
	}
}

func TestMakeOfEachNumber(t *testing.T) { // P16.1, R3
	for _, x := range []struct {
		id  int
		err api.Errno
	}{{-1, api.ErrArg}, {0, api.OK}, {1, api.OK}, {1<<32 - 1, api.OK}, {1 << 32, api.ErrArg}, {math.MaxInt, api.ErrArg}, {math.MinInt, api.ErrArg}} {
		a := arrayOf(t, layout)
		v, err := volume.Make(a, layout, x.id)
		if err != x.err || (v == nil) != (err != api.OK) {
			t.Errorf("Make, %d: %d", x.id, err)
		}
		if err != api.OK {
			hasFlushed(t, "Make", a, dump(arrayOf(t, layout), 6))
			continue
		}
		ok(t, "Write", v.Write(1, "one"))
		w, err := volume.Open(a, x.id)
		if w == nil || err != api.OK {
			t.Fatalf("Open, %d: %d", x.id, err)
		}
		reads(t, "Open", w, "", "one", "")
		if w, err := volume.Open(a, x.id^1); w != nil || err != api.ErrLost {
			t.Errorf("Open of another number: %d", err)
		}
	}
}

// Each fault comes with each other one: the one that is named first is told.
func TestMakeTellsTheFirstError(t *testing.T) { // P16.1, R2, R3
	others := []api.Conf{layout, {}, {K: 3, M: 1, Shard: 8, Stripes: 3, Slots: 2}, {K: 1, M: 1, Shard: 8, Stripes: 3, Slots: 2}, {K: 2, M: 1, Shard: 8, Stripes: 3, Slots: 17}, {K: 3, M: 0, Shard: 8, Stripes: 3, Slots: 2}, {K: 2, M: 1, Shard: 7, Stripes: 3, Slots: 2}}
	for _, c := range others {
		for _, id := range []int{id, -1, 1 << 32} {
			for _, down := range []bool{false, true} {
				for set := range 8 {
					a := arrayOf(t, layout)
					if down {
						goDown(t, a)
					}
					failSet(t, a, set)
					want := api.OK
					switch {
					case c != layout || id < 0 || id > 1<<32-1:
						want = api.ErrArg
					case down:
						want = api.ErrPower
					case set != 0:
						want = api.ErrGone
					}
					v, err := volume.Make(a, c, id)
					if err != want || (v == nil) != (want != api.OK) {
						t.Errorf("Make(%v, %d), power gone %v, disks failed %b: %d, not %d", c, id, down, set, err, want)
					}
					if v, err := volume.Make(nil, c, id); v != nil || err != api.ErrArg {
						t.Errorf("Make(nil): %d", err)
					}
				}
			}
		}
	}
	if v, err := volume.Make(new(array.Array), layout, id); v != nil || err != api.ErrArg {
		t.Errorf("Make on no disks: %d", err)
	}
	if v, err := volume.Make(new(array.Array), api.Conf{}, id); v != nil || err != api.ErrArg {
		t.Errorf("Make of nothing on no disks: %d", err)
	}
}

// A flush is no write: with as many writes left as there are, all is done.
func TestMakeCut(t *testing.T) { // P16.1, R3
	for _, c := range layouts {
		writes := (c.K + c.M) * (1 + c.Stripes)
		for fuse := range writes + 2 {
			a := arrayOf(t, c)
			ok(t, "Fuse", a.Fuse(fuse))
			v, err := volume.Make(a, c, id)
			if fuse >= writes {
				if v == nil || err != api.OK || a.Down() {
					t.Errorf("%v, fuse %d: %d", c, fuse, err)
				}
				hasFlushed(t, "all is written", a, asMade(t, c))
				continue
			}
			if v != nil || err != api.ErrPower || !a.Down() {
				t.Errorf("%v, fuse %d: %v, %d", c, fuse, v, err)
			}
			// Nothing is flushed ahead of the last write.
			lost := a.Copy()
			ok(t, "Crash", lost.Crash(nil))
			has(t, "nothing is kept", lost, dump(arrayOf(t, c), conf.Sectors(c)))
			ok(t, "Crash", a.Crash(bitsOf(-1, writes)))
			many := 0
			for d, sectors := range dump(a, conf.Sectors(c)) {
				for n, s := range sectors {
					if s == "" {
						continue
					}
					many++
					if s != asMade(t, c)[d][n] {
						t.Errorf("%v, fuse %d: disk %d, sector %d: %q", c, fuse, d, n, s)
					}
				}
			}
			if many != fuse {
				t.Errorf("%v, fuse %d: %d are written", c, fuse, many)
			}
		}
	}
}

func TestMakeOnDisksThatAreTooSmall(t *testing.T) { // P16.1, R1, R3
	for _, x := range []struct {
		sectors, size int
		err           api.Errno
	}{
		{1, conf.Size(layout), api.ErrArg},
		{5, conf.Size(layout), api.ErrArg},
		{6, 1, api.ErrBig},
		{6, 39, api.ErrBig},
		{1, 39, api.ErrBig},
		{6, 40, api.OK},
		{7, 4096, api.OK},
	} {
		a, err := array.New(3, x.sectors, x.size)
		ok(t, "array.New", err)
		v, err := volume.Make(a, layout, id)
		if err != x.err || (v == nil) != (x.err != api.OK) {
			t.Errorf("%d sectors of %d bytes: %d", x.sectors, x.size, err)
		}
	}
	// There is room for heads and shards, and for no intent of some bytes.
	a, err := array.New(3, 6, 41)
	ok(t, "array.New", err)
	v, err := volume.Make(a, layout, id)
	ok(t, "Make", err)
	ok(t, "Write", v.Write(0, "a"))
	if err := v.Write(0, "ab"); err != api.ErrBig || v.Seq() != 1 {
		t.Errorf("Write: %d, and Seq is %d", err, v.Seq())
	}
	reads(t, "what was written", v, "a", "", "")
	reads(t, "what was written", opened(t, a), "a", "", "")
}

// Made again, a volume leaves intents as they are.
func TestMakeAgain(t *testing.T) { // P16.1, P16.4
	a, v := made(t, layout)
	ok(t, "Write", v.Write(1, "one"))
	ok(t, "Write", v.Write(2, "two"))
	v, err := volume.Make(a, layout, id)
	ok(t, "Make", err)
	want := asMade(t, layout)
	want.setRecords(t, layout, intent.Intent{Seq: 0, Stripe: 1, Text: "one"})
	want.setRecords(t, layout, intent.Intent{Seq: 1, Stripe: 2, Text: "two"})
	hasFlushed(t, "made again", a, want)
	reads(t, "made again", v, "", "", "")
	if v.Seq() != 0 {
		t.Errorf("Seq is %d", v.Seq())
	}
	// Another array's intents are none of its own.
	other, err := volume.Make(a, layout, id+1)
	ok(t, "Make", err)
	other, err = volume.Open(a, id+1)
	ok(t, "Open", err)
	reads(t, "of another number", other, "", "", "")
	if other.Seq() != 0 {
		t.Errorf("Seq is %d", other.Seq())
	}
}

func TestVolumeUsesItsArray(t *testing.T) { // R5, and the array's methods are the volume's
	a, v := made(t, layout)
	ok(t, "Fail", v.Fail(2))
	if a.Alive(2) || v.Alive(2) || !v.Alive(1) || v.Disks() != 3 || v.Down() {
		t.Error("the volume's array is another one")
	}
	ok(t, "Replace", a.Replace(2))
	if many, err := v.Mend(0); many != 1 || err != api.OK {
		t.Errorf("Mend: %d, %d", many, err)
	}
	s, err := a.Read(2, 3)
	ok(t, "Read", err)
	if b, err := block.Own(s, id, 2, 3); err != api.OK || b.Epoch != 0 {
		t.Errorf("the shard: %v, %d", b, err)
	}
}

func TestNil(t *testing.T) { // P16.5, R1, R3
	var none *volume.Volume
	for _, v := range []*volume.Volume{none, new(volume.Volume)} {
		for _, n := range []int{0, 1, -1, 999, math.MaxInt, math.MinInt} {
			if s, err := v.Read(n); s != "" || err != api.ErrArg {
				t.Errorf("Read(%d): %q, %d", n, s, err)
			}
			if err := v.Write(n, "a"); err != api.ErrArg {
				t.Errorf("Write(%d): %d", n, err)
			}
			if many, err := v.Health(n); many != 0 || err != api.ErrArg {
				t.Errorf("Health(%d): %d, %d", n, many, err)
			}
			if many, err := v.Mend(n); many != 0 || err != api.ErrArg {
				t.Errorf("Mend(%d): %d, %d", n, many, err)
			}
		}
		if many, err := v.Heads(); many != 0 || err != api.ErrArg {
			t.Errorf("Heads: %d, %d", many, err)
		}
		if v.Conf() != (api.Conf{}) || v.Seq() != 0 {
			t.Errorf("%v, %d", v.Conf(), v.Seq())
		}
	}
}
