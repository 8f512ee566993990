package scrub_test

import (
	"math/rand"
	"testing"

	"sheetpile/api"
	"sheetpile/array"
	"sheetpile/conf"
	"sheetpile/scrub"
	"sheetpile/volume"
)

func all(t *testing.T, v *volume.Volume, want scrub.Report) {
	t.Helper()
	if r, err := scrub.All(v); r != want || err != api.OK {
		t.Errorf("%v: All: %+v, %d, not %+v", v.Conf(), r, err, want)
	}
}

func least(t *testing.T, v *volume.Volume, want int, wantErr api.Errno) {
	t.Helper()
	if n, err := scrub.Least(v); n != want || err != wantErr {
		t.Errorf("%v: Least: %d, %d, not %d, %d", v.Conf(), n, err, want, wantErr)
	}
}

// The document's example: nothing is damaged.
func TestAllOfWhatIsWhole(t *testing.T) { // P17.2
	for _, c := range append(layouts, api.Conf{K: 1, M: 1, Shard: 16, Stripes: 1000, Slots: 16}) {
		a, v := fresh(t, c)
		want := dump(a, c)
		all(t, v, scrub.Report{Next: c.Stripes, Done: true})
		has(t, "whole", a, c, want)
		least(t, v, a.Disks(), api.OK)
	}
}

func TestAllOfBlankDisks(t *testing.T) { // P17.2
	for _, c := range layouts {
		for many := range c.M + 1 {
			for _, set := range sets(conf.Disks(c), many) {
				a, v := fresh(t, c)
				want := dump(a, c)
				for _, d := range set {
					ok(t, "Replace", a.Replace(d))
					for seq := range c.Slots {
						want[d][conf.Slot(c, seq)] = ""
					}
				}
				least(t, v, a.Disks()-many, api.OK)
				all(t, v, scrub.Report{Next: c.Stripes, Mended: many * (1 + c.Stripes), Done: true})
				has(t, "blank", a, c, want)
				least(t, v, a.Disks(), api.OK)
			}
		}
	}
	// Of too many all is lost, but the heads.
	a, v := fresh(t, wide)
	for d := range wide.M + 1 {
		ok(t, "Replace", a.Replace(d))
	}
	all(t, v, scrub.Report{Next: wide.Stripes, Mended: wide.M + 1, Lost: wide.Stripes, Done: true})
	all(t, v, scrub.Report{Next: wide.Stripes, Lost: wide.Stripes, Done: true})
}

func TestAllOfLostStripes(t *testing.T) { // P17.2
	c := wide
	for set := range 1 << c.Stripes {
		a, v := fresh(t, c)
		lost := 0
		for n := range c.Stripes {
			if set&(1<<n) != 0 {
				lose(t, a, c, n)
				lost++
			}
		}
		all(t, v, scrub.Report{Next: c.Stripes, Lost: lost, Done: true})
		if lost > 0 {
			least(t, v, 0, api.ErrLost)
		} else {
			least(t, v, a.Disks(), api.OK)
		}
	}
}

func TestAllAndLeastTellTheirErrors(t *testing.T) { // P17.2, R3
	if r, err := scrub.All(nil); r != (scrub.Report{}) || err != api.ErrArg {
		t.Errorf("All of nil: %+v, %d", r, err)
	}
	least(t, nil, 0, api.ErrArg)
	for _, damaged := range []func(a *array.Array){
		func(a *array.Array) {},
		func(a *array.Array) { ok(t, "Replace", a.Replace(0)) },
		func(a *array.Array) { lose(t, a, wide, 1) },
	} {
		a, v := fresh(t, wide)
		damaged(a)
		want := dump(a, wide)
		goDown(t, a)
		if r, err := scrub.All(v); r != (scrub.Report{}) || err != api.ErrPower {
			t.Errorf("All without power: %+v, %d", r, err)
		}
		least(t, v, 0, api.ErrPower)
		has(t, "no power", a, wide, want)
	}
}

// The power goes within each write of All; behind the crash All mends the rest.
func TestAllCut(t *testing.T) { // P17.2
	for _, c := range layouts {
		for fuse := range 2 + c.Stripes {
			a, v := fresh(t, c)
			ok(t, "Replace", a.Replace(0))
			ok(t, "Fuse", a.Fuse(fuse))
			r, err := scrub.All(v)
			if fuse > c.Stripes {
				if r != (scrub.Report{Next: c.Stripes, Mended: 1 + c.Stripes, Done: true}) || err != api.OK {
					t.Errorf("%v, fuse %d: %+v, %d", c, fuse, r, err)
				}
				continue
			}
			if r != (scrub.Report{}) || err != api.ErrPower {
				t.Errorf("%v, fuse %d: %+v, %d", c, fuse, r, err)
			}
			ok(t, "Crash", a.Crash(nil))
			all(t, v, scrub.Report{Next: c.Stripes, Mended: 1 + c.Stripes - fuse, Done: true})
		}
	}
}

// Each stripe in turn is the least one, or the lost one, of stripes of unlike health.
func TestLeast(t *testing.T) { // P17.2
	for _, c := range layouts {
		for n := range c.Stripes {
			a, v := fresh(t, c)
			if c.M > 1 {
				for x := range c.Stripes {
					if x != n && x%2 == 0 {
						corrupt(t, a, 0, conf.Stripe(c, x))
					}
				}
			}
			for d := range c.M {
				corrupt(t, a, d, conf.Stripe(c, n))
			}
			want := dump(a, c)
			least(t, v, c.K, api.OK)
			has(t, "Least", a, c, want)
			lose(t, a, c, n)
			want = dump(a, c)
			least(t, v, 0, api.ErrLost)
			has(t, "Least of a lost stripe", a, c, want)
		}
		a, v := fresh(t, c)
		for d := range a.Disks() {
			want, err := a.Disks()-d-1, api.OK
			if want < c.K {
				want, err = 0, api.ErrLost
			}
			ok(t, "Fail", a.Fail(d))
			least(t, v, want, err)
		}
	}
}

// damage changes some sectors of at most M disks, or blanks them.
func damage(t *testing.T, random *rand.Rand, a *array.Array, c api.Conf) {
	for _, d := range random.Perm(a.Disks())[:c.M] {
		if random.Intn(3) == 0 {
			ok(t, "Replace", a.Replace(d))
			continue
		}
		for range random.Intn(conf.Sectors(c)) {
			corrupt(t, a, d, random.Intn(conf.Sectors(c)))
		}
	}
}

// reads is that each stripe is what was written there.
func reads(t *testing.T, what string, v *volume.Volume) {
	t.Helper()
	for n := range v.Conf().Stripes {
		if s, err := v.Read(n); s != textOf(n) || err != api.OK {
			t.Errorf("%s: Read(%d): %q, %d", what, n, s, err)
		}
	}
}

// Behind All any M disks may be lost, also of what is opened anew; and behind
// a further All M others.
func TestBehindAllAnyDisksMayFail(t *testing.T) { // P17.3
	random := rand.New(rand.NewSource(17))
	for _, c := range layouts {
		for range 40 {
			a, v := fresh(t, c)
			for range 5 {
				damage(t, random, a, c)
				if r, err := scrub.All(v); !r.Done || r.Lost != 0 || err != api.OK {
					t.Errorf("%v: All: %+v, %d", c, r, err)
				}
				least(t, v, a.Disks(), api.OK)
			}
			for _, set := range sets(a.Disks(), c.M) {
				x := a.Copy()
				for _, d := range set {
					ok(t, "Fail", x.Fail(d))
				}
				w, err := volume.Open(x, id)
				if err != api.OK {
					t.Fatalf("%v, failed %v: Open: %d", c, set, err)
				}
				reads(t, "failed", w)
			}
		}
	}
}
