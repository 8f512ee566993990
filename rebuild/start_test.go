package rebuild_test

import (
	"math"
	"testing"

	"sheetpile/api"
	"sheetpile/array"
	"sheetpile/conf"
	"sheetpile/rebuild"
	"sheetpile/volume"
)

// Each fault comes with each other one: the one that is named first is told,
// and the disk is as it was.
func TestStartTellsTheFirstError(t *testing.T) { // P18.1, R2, R3
	for _, c := range layouts {
		last := c.K + c.M - 1
		for _, d := range []int{math.MinInt, -1, 0, last, last + 1, math.MaxInt} {
			for faults := range 1 << 3 {
				a, v := fresh(t, c)
				want := dump(a, c)
				down, givenArray, givenVolume := faults&1 != 0, a, v
				if down {
					goDown(t, a)
				}
				if faults&2 != 0 {
					givenArray = nil
				}
				if faults&4 != 0 {
					givenVolume = nil
				}
				wantErr := api.OK
				switch {
				case givenArray == nil || givenVolume == nil || d < 0 || d > last:
					wantErr = api.ErrArg
				case down:
					wantErr = api.ErrPower
				default:
					want[d] = make([]string, conf.Sectors(c))
				}
				r, err := rebuild.Start(givenArray, givenVolume, d)
				if err != wantErr || (r == nil) != (wantErr != api.OK) {
					t.Errorf("%v: Start of disk %d, faults %b: %v, %d, not %d", c, d, faults, r, err, wantErr)
				}
				has(t, "Start", a, c, want)
			}
		}
	}
}

// The disk is blank, be it one that works or one that failed, and no other one
// is touched.
func TestStartBlanksTheDisk(t *testing.T) { // P18.1
	for _, c := range layouts {
		for d := range conf.Disks(c) {
			for _, failed := range []bool{false, true} {
				a, v := fresh(t, c)
				want := dump(a, c)
				want[d] = make([]string, conf.Sectors(c))
				ok(t, "Write", a.Write(d, 0, "it waits"))
				if failed {
					ok(t, "Fail", a.Fail(d))
				}
				r := started(t, a, v, d)
				if r.Left() != c.Stripes || !a.Alive(d) {
					t.Errorf("%v: disk %d: %d left, and it works: %v", c, d, r.Left(), a.Alive(d))
				}
				ok(t, "Crash", a.Crash([]bool{true}))
				has(t, "Start", a, c, want)
				stands(t, v, c.M-1, api.OK)
			}
		}
	}
}

// A fuse is no power that is gone; and a disk is replaced without a write.
func TestStartUsesUpNoFuse(t *testing.T) { // P18.1
	a, v := fresh(t, wide)
	ok(t, "Fuse", a.Fuse(0))
	r := started(t, a, v, 1)
	if a.Down() {
		t.Error("the power is gone")
	}
	step(t, r, 1, false, api.ErrPower, wide.Stripes)
}

// The power and the disks are those of the array that is handed in.
func TestStartAsksTheArray(t *testing.T) { // P18.1
	_, v := fresh(t, wide)
	other, err := array.New(7, 1, 1)
	ok(t, "array.New", err)
	started(t, other, v, 6)
	goDown(t, other)
	if r, err := rebuild.Start(other, v, 0); r != nil || err != api.ErrPower {
		t.Errorf("Start: %v, %d", r, err)
	}
}

func TestNil(t *testing.T) { // P18.1, R1
	var r *rebuild.Rebuild
	_, v := fresh(t, wide)
	for _, many := range []int{math.MinInt, -1, 0, 1, math.MaxInt} {
		step(t, r, many, false, api.ErrArg, 0)
		step(t, new(rebuild.Rebuild), many, false, api.ErrArg, 0)
	}
	for _, given := range []*volume.Volume{nil, v} {
		if err := r.Again(given); err != api.ErrArg {
			t.Errorf("Again of nil: %d", err)
		}
		if err := new(rebuild.Rebuild).Again(given); err != api.ErrArg {
			t.Errorf("Again of what Start did not make: %d", err)
		}
	}
	if r, err := rebuild.Start(new(array.Array), v, 0); r != nil || err != api.ErrArg {
		t.Errorf("Start of an array without disks: %v, %d", r, err)
	}
	stands(t, nil, 0, api.ErrArg)
}

func TestStands(t *testing.T) { // P18.3
	for _, c := range layouts {
		for many := range conf.Disks(c) + 1 {
			for _, set := range sets(conf.Disks(c), many) {
				a, v := fresh(t, c)
				for _, d := range set {
					ok(t, "Fail", a.Fail(d))
				}
				if many <= c.M {
					stands(t, v, c.M-many, api.OK)
				} else {
					stands(t, v, 0, api.ErrLost)
				}
			}
		}
		for n := range c.Stripes {
			a, v := fresh(t, c)
			ok(t, "Corrupt", a.Corrupt(0, conf.Stripe(c, n), "junk"))
			stands(t, v, c.M-1, api.OK)
			lose(t, a, c, n)
			stands(t, v, 0, api.ErrLost)
			goDown(t, a)
			stands(t, v, 0, api.ErrPower)
		}
	}
}
