package scrub_test

import (
	"math"
	"testing"

	"sheetpile/api"
	"sheetpile/array"
	"sheetpile/block"
	"sheetpile/conf"
	"sheetpile/scrub"
	"sheetpile/volume"
)

// A disk is blank, so that a step that did something would be seen.
func TestStepRefuses(t *testing.T) { // P17.1, R2, R3
	for _, c := range layouts {
		for _, down := range []bool{false, true} {
			a, v := fresh(t, c)
			ok(t, "Replace", a.Replace(0))
			want := dump(a, c)
			if down {
				goDown(t, a)
			}
			for _, many := range []int{math.MinInt, -1, 0, 1, c.Stripes, math.MaxInt} {
				for _, from := range []int{math.MinInt, -1, c.Stripes + 1, math.MaxInt} {
					stepFails(t, v, from, many, api.ErrArg)
				}
				for from := range c.Stripes + 1 {
					if many < 1 {
						stepFails(t, v, from, many, api.ErrArg)
					}
					stepFails(t, nil, from, many, api.ErrArg)
				}
			}
			has(t, "refused", a, c, want)
		}
	}
}

// A volume that no call made has no stripes, and its array is none.
func TestStepOfVolumesThatNobodyMade(t *testing.T) { // R1
	v := new(volume.Volume)
	stepFails(t, v, 0, 1, api.ErrArg)
	stepFails(t, v, 1, 1, api.ErrArg)
	if r, err := scrub.All(v); r != (scrub.Report{}) || err != api.ErrArg {
		t.Errorf("All: %+v, %d", r, err)
	}
	if n, _ := scrub.Least(v); n != 0 {
		t.Errorf("Least: %d", n)
	}
}

// Of a blank disk just those sectors are there again that the step went through.
func TestStepFillsABlankDisk(t *testing.T) { // P17.1
	for _, c := range layouts {
		for d := range conf.Disks(c) {
			for from := range c.Stripes + 1 {
				for _, many := range []int{1, 2, c.Stripes, c.Stripes + 1, math.MaxInt - 1, math.MaxInt} {
					a, v := fresh(t, c)
					whole := dump(a, c)
					ok(t, "Replace", a.Replace(d))
					want := dump(a, c)
					report := scrub.Report{Next: from}
					if from == 0 {
						want[d][0] = whole[d][0]
						report.Mended++
					}
					for i := 0; i < many && report.Next < c.Stripes; i++ {
						place := conf.Stripe(c, report.Next)
						want[d][place] = whole[d][place]
						report.Next++
						report.Mended++
					}
					report.Done = report.Next == c.Stripes
					steps(t, v, from, many, report)
					has(t, "filled", a, c, want)
					report.Mended = 0
					steps(t, v, from, many, report)
					has(t, "filled once more", a, c, want)
				}
			}
		}
	}
}

// Stripe n lacks n mod (M + 1) shards: Mended is all of them together.
func TestStepMendsAllThatLack(t *testing.T) { // P17.1
	for _, c := range layouts {
		for from := range c.Stripes + 1 {
			for many := 1; many <= c.Stripes+1; many++ {
				a, v := fresh(t, c)
				whole := dump(a, c)
				for n := range c.Stripes {
					for i := range n % (c.M + 1) {
						corrupt(t, a, (n+i)%a.Disks(), conf.Stripe(c, n))
					}
				}
				want, report := dump(a, c), scrub.Report{Next: min(from+many, c.Stripes)}
				for n := from; n < report.Next; n++ {
					report.Mended += n % (c.M + 1)
					for d := range want {
						want[d][conf.Stripe(c, n)] = whole[d][conf.Stripe(c, n)]
					}
				}
				report.Done = report.Next == c.Stripes
				steps(t, v, from, many, report)
				has(t, "mended", a, c, want)
			}
		}
	}
}

// Heads that are none, another layout's, or another disk's, are mended by a
// step from stripe 0, and by no other one.
func TestStepMendsHeads(t *testing.T) { // P17.1
	c := wide
	other := c
	other.Slots++
	text, err := conf.Write(other)
	ok(t, "conf.Write", err)
	layout, err := block.Seal(block.Block{Array: id, Disk: 1, Text: text})
	ok(t, "block.Seal", err)
	a, v := fresh(t, c)
	whole := dump(a, c)
	ok(t, "Corrupt", a.Corrupt(0, 0, ""))
	ok(t, "Corrupt", a.Corrupt(1, 0, layout))
	ok(t, "Corrupt", a.Corrupt(2, 0, whole[3][0]))
	bad := dump(a, c)
	for from := 1; from <= c.Stripes; from++ {
		steps(t, v, from, 9, scrub.Report{Next: c.Stripes, Done: true})
		has(t, "from another stripe", a, c, bad)
	}
	steps(t, v, 0, 1, scrub.Report{Next: 1, Mended: 3})
	has(t, "from stripe 0", a, c, whole)
	steps(t, v, 0, 1, scrub.Report{Next: 1})
}

// Each set of stripes is lost, between others that lack a shard.
func TestStepGoesOnBehindLostStripes(t *testing.T) { // P17.1
	c := wide
	for set := range 1 << c.Stripes {
		for from := range c.Stripes + 1 {
			for many := 1; many <= c.Stripes+1; many++ {
				a, v := fresh(t, c)
				whole := dump(a, c)
				for n := range c.Stripes {
					corrupt(t, a, 3, conf.Stripe(c, n))
					if set&(1<<n) != 0 {
						lose(t, a, c, n)
					}
				}
				want, report := dump(a, c), scrub.Report{Next: min(from+many, c.Stripes)}
				for n := from; n < report.Next; n++ {
					if set&(1<<n) != 0 {
						report.Lost++
						continue
					}
					report.Mended++
					want[3][conf.Stripe(c, n)] = whole[3][conf.Stripe(c, n)]
				}
				report.Done = report.Next == c.Stripes
				steps(t, v, from, many, report)
				has(t, "lost", a, c, want)
			}
		}
	}
}

// K shards of one epoch that are no text's: the stripe is lost to Mend.
func TestStepOfShardsThatAreNoText(t *testing.T) { // P17.1
	c := wide
	a, v := fresh(t, c)
	for d := range a.Disks() {
		s, err := block.Seal(block.Block{Array: id, Disk: d, Place: conf.Stripe(c, 1), Epoch: 9, Text: "\xFF\xFF\xFF\xFF\xFF\xFF\xFF\xFF"})
		ok(t, "block.Seal", err)
		ok(t, "Corrupt", a.Corrupt(d, conf.Stripe(c, 1), s))
	}
	want := dump(a, c)
	steps(t, v, 0, c.Stripes, scrub.Report{Next: c.Stripes, Lost: 1, Done: true})
	has(t, "no text", a, c, want)
}

// sector is where a write goes.
type sector struct{ disk, place int }

// Two disks are blank, and the power goes at each write of a step: what was
// flushed ahead of that stays; of what waits a crash keeps any of it.
func TestStepCut(t *testing.T) { // P17.1, R3
	c := wide
	for from := range c.Stripes {
		flushes := [][]sector{}
		if from == 0 {
			flushes = append(flushes, []sector{{1, 0}, {2, 0}})
		}
		for n := from; n < min(from+2, c.Stripes); n++ {
			place := conf.Stripe(c, n)
			flushes = append(flushes, []sector{{1, place}, {2, place}})
		}
		writes := 2 * len(flushes)
		for fuse := range writes + 1 {
			for _, keep := range []bool{false, true} {
				a, v := fresh(t, c)
				whole := dump(a, c)
				ok(t, "Replace", a.Replace(1))
				ok(t, "Replace", a.Replace(2))
				want := dump(a, c)
				for _, flushed := range flushes[:fuse/2] {
					for _, s := range flushed {
						want[s.disk][s.place] = whole[s.disk][s.place]
					}
				}
				ok(t, "Fuse", a.Fuse(fuse))
				if fuse < writes {
					stepFails(t, v, from, 2, api.ErrPower)
				} else {
					next := min(from+2, c.Stripes)
					steps(t, v, from, 2, scrub.Report{Next: next, Mended: writes, Done: next == c.Stripes})
				}
				if a.Down() != (fuse < writes) {
					t.Errorf("from %d, fuse %d: the power is gone: %v", from, fuse, a.Down())
				}
				has(t, "cut", a, c, want)
				ok(t, "Crash", a.Crash([]bool{keep}))
				if keep && fuse%2 == 1 {
					s := flushes[fuse/2][0]
					want[s.disk][s.place] = whole[s.disk][s.place]
				}
				has(t, "cut, behind a crash", a, c, want)
			}
		}
	}
}

// A step behind the last stripe asks nothing of the disks.
func TestStepWithoutPower(t *testing.T) { // P17.1, R2, R3
	for _, c := range layouts {
		for _, lost := range []bool{false, true} {
			a, v := fresh(t, c)
			if lost {
				lose(t, a, c, 0)
			}
			want := dump(a, c)
			goDown(t, a)
			for from := range c.Stripes {
				stepFails(t, v, from, 1, api.ErrPower)
				stepFails(t, v, from, math.MaxInt, api.ErrPower)
			}
			steps(t, v, c.Stripes, 1, scrub.Report{Next: c.Stripes, Done: true})
			has(t, "no power", a, c, want)
		}
	}
}

// Each error but ErrLost ends a step: here that of disks that are too small.
func TestStepTellsOtherErrors(t *testing.T) { // P17.1
	_, v := fresh(t, wide)
	small, err := array.New(conf.Disks(wide), conf.Sectors(wide), 1)
	ok(t, "array.New", err)
	v.Array = small
	stepFails(t, v, 0, 1, api.ErrBig)
	if r, err := scrub.All(v); r != (scrub.Report{}) || err != api.ErrBig {
		t.Errorf("All: %+v, %d", r, err)
	}
	steps(t, v, 1, 9, scrub.Report{Next: wide.Stripes, Lost: wide.Stripes - 1, Done: true})
}

// Disks that do not work are neither mended nor counted.
func TestStepOnDisksThatFailed(t *testing.T) { // P17.1
	for _, c := range layouts {
		for many := range c.M + 1 {
			for _, set := range sets(conf.Disks(c), many) {
				a, v := fresh(t, c)
				whole := dump(a, c)
				for _, d := range set {
					ok(t, "Fail", a.Fail(d))
				}
				want := dump(a, c)
				steps(t, v, 0, c.Stripes, scrub.Report{Next: c.Stripes, Done: true})
				has(t, "failed", a, c, want)
				for i, d := range set {
					ok(t, "Replace", a.Replace(d))
					want[d] = make([]string, conf.Sectors(c))
					want[d][0] = whole[d][0]
					for n := range c.Stripes {
						want[d][conf.Stripe(c, n)] = whole[d][conf.Stripe(c, n)]
					}
					steps(t, v, 0, c.Stripes, scrub.Report{Next: c.Stripes, Mended: 1 + c.Stripes, Done: true})
					has(t, "replaced", a, c, want)
					if least, err := scrub.Least(v); least != a.Disks()-many+i+1 || err != api.OK {
						t.Errorf("%v, failed %v: Least: %d, %d", c, set, least, err)
					}
				}
			}
		}
	}
	a, v := fresh(t, wide)
	for d := range wide.M + 1 {
		ok(t, "Fail", a.Fail(d))
	}
	steps(t, v, 0, wide.Stripes, scrub.Report{Next: wide.Stripes, Lost: wide.Stripes, Done: true})
}
