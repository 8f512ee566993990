package rebuild_test

import (
	"math"
	"testing"

	"sheetpile/api"
	"sheetpile/array"
	"sheetpile/conf"
	"sheetpile/volume"
)

// The document's example.
func TestStepOfAll(t *testing.T) { // P18.2, P18.3
	a, v := fresh(t, wide)
	ok(t, "Fail", a.Fail(1))
	r := started(t, a, v, 1)
	step(t, r, wide.Stripes, true, api.OK, 0)
	stands(t, v, wide.M, api.OK)
}

// Each step fills just its stripes, and the first one the head, too.
func TestStepFillsTheDisk(t *testing.T) { // P18.2, P18.4
	for _, c := range layouts {
		for d := range conf.Disks(c) {
			for _, many := range []int{1, 2, c.Stripes, c.Stripes + 1, math.MaxInt} {
				a, v := fresh(t, c)
				whole := dump(a, c)
				r := started(t, a, v, d)
				want := dump(a, c)
				want[d][0] = whole[d][0]
				next := 0
				for next < c.Stripes {
					for _, none := range []int{math.MinInt, -1, 0} {
						step(t, r, none, false, api.ErrArg, c.Stripes-next)
					}
					from := next
					next += min(many, c.Stripes-next)
					for n := from; n < next; n++ {
						want[d][conf.Stripe(c, n)] = whole[d][conf.Stripe(c, n)]
					}
					step(t, r, many, next == c.Stripes, api.OK, c.Stripes-next)
					has(t, "step", a, c, want)
				}
				anyMayFail(t, "filled", a, v, textsOf(c))
				step(t, r, 0, false, api.ErrArg, 0)
				step(t, r, many, true, api.OK, 0)
				has(t, "behind the end", a, c, want)
			}
		}
	}
}

// Behind the end nothing is looked at any more, not even for the power.
func TestStepBehindTheEnd(t *testing.T) { // P18.2
	a, v := fresh(t, wide)
	r := started(t, a, v, 1)
	step(t, r, 9, true, api.OK, 0)
	ok(t, "Corrupt", a.Corrupt(1, 0, ""))
	ok(t, "Corrupt", a.Corrupt(1, conf.Stripe(wide, 0), ""))
	want := dump(a, wide)
	step(t, r, 9, true, api.OK, 0)
	has(t, "behind the end", a, wide, want)
	goDown(t, a)
	step(t, r, 1, true, api.OK, 0)
	step(t, r, 0, false, api.ErrArg, 0)
}

// Each set of stripes is lost: a step that meets one tells it, has mended the
// others, and goes on.
func TestStepGoesOnBehindLostStripes(t *testing.T) { // P18.2
	c := wide
	for set := range 1 << c.Stripes {
		for many := 1; many <= c.Stripes+1; many++ {
			a, v := fresh(t, c)
			whole := dump(a, c)
			for n := range c.Stripes {
				if set&(1<<n) != 0 {
					lose(t, a, c, n)
				}
			}
			r := started(t, a, v, 3)
			want := dump(a, c)
			want[3][0] = whole[3][0]
			for from := 0; from < c.Stripes; from += many {
				next, err := min(from+many, c.Stripes), api.OK
				for n := from; n < next; n++ {
					if set&(1<<n) != 0 {
						err = api.ErrLost
						continue
					}
					want[3][conf.Stripe(c, n)] = whole[3][conf.Stripe(c, n)]
				}
				step(t, r, many, next == c.Stripes && err == api.OK, err, c.Stripes-next)
				has(t, "lost", a, c, want)
			}
			step(t, r, many, true, api.OK, 0)
			if set != 0 {
				stands(t, v, 0, api.ErrLost)
			}
		}
	}
}

// A disk that fails while it is filled is not written to: the steps go on.
func TestStepOfADiskThatFailsAgain(t *testing.T) { // P18.2
	c := wide
	a, v := fresh(t, c)
	r := started(t, a, v, 1)
	step(t, r, 1, false, api.OK, 3)
	ok(t, "Fail", a.Fail(1))
	want := dump(a, c)
	step(t, r, 9, true, api.OK, 0)
	has(t, "failed", a, c, want)
	stands(t, v, c.M-1, api.OK)
	r = started(t, a, v, 1)
	step(t, r, 9, true, api.OK, 0)
	anyMayFail(t, "filled", a, v, textsOf(c))
}

// Two disks are replaced, the second one while the first one is filled: each
// rebuild has its own place.
func TestTwoRebuilds(t *testing.T) { // P18.2
	for between := range wide.Stripes + 1 {
		a, v := fresh(t, wide)
		first := started(t, a, v, 0)
		for i := range between {
			step(t, first, 1, i == wide.Stripes-1, api.OK, wide.Stripes-1-i)
		}
		second := started(t, a, v, 3)
		if first.Left() != wide.Stripes-between || second.Left() != wide.Stripes {
			t.Errorf("%d and %d left", first.Left(), second.Left())
		}
		step(t, first, 9, true, api.OK, 0)
		step(t, second, 1, false, api.OK, wide.Stripes-1)
		step(t, second, 9, true, api.OK, 0)
		anyMayFail(t, "both", a, v, textsOf(wide))
	}
}

func TestAgainRefuses(t *testing.T) { // P18.2, R3
	a, v := fresh(t, wide)
	r := started(t, a, v, 1)
	step(t, r, 1, false, api.OK, 3)
	others := []api.Conf{wide, wide, wide, wide, wide}
	others[0].K++
	others[1].M++
	others[2].Shard++
	others[3].Stripes++
	others[4].Slots++
	for _, c := range others {
		_, other := fresh(t, c)
		if err := r.Again(other); err != api.ErrArg || r.Left() != 3 {
			t.Errorf("Again with %v: %d, and %d left", c, err, r.Left())
		}
	}
	if err := r.Again(nil); err != api.ErrArg || r.Left() != 3 {
		t.Errorf("Again with nil: %d, and %d left", err, r.Left())
	}
	step(t, r, 9, true, api.OK, 0)
	anyMayFail(t, "filled", a, v, textsOf(wide))
}

// Behind Again the new volume's disks are filled, and the others no more.
func TestAgainGoesOnWithTheNewVolume(t *testing.T) { // P18.2
	c := wide
	for done := range c.Stripes + 1 {
		a, v := fresh(t, c)
		// Without its intents Open mends no stripe.
		for d := range a.Disks() {
			for seq := range c.Slots {
				ok(t, "Corrupt", a.Corrupt(d, conf.Slot(c, seq), ""))
			}
		}
		whole := dump(a, c)
		r := started(t, a, v, 1)
		for range done {
			_, err := r.Step(1)
			ok(t, "Step", err)
		}
		old := dump(a, c)
		b := a.Copy()
		w := opened(t, b)
		ok(t, "Again", r.Again(w))
		if r.Left() != c.Stripes-done {
			t.Errorf("%d left, not %d", r.Left(), c.Stripes-done)
		}
		step(t, r, 9, true, api.OK, 0)
		has(t, "the old disks", a, c, old)
		has(t, "the new disks", b, c, whole)
		ok(t, "Again", r.Again(w))
		ok(t, "Again", r.Again(v))
		step(t, r, 9, true, api.OK, 0)
		has(t, "the old disks", a, c, old)
	}
}

// cut is a rebuild of disks 1 and 2, with so many stripes done, whose next
// step the power cuts behind so many writes; none, if there are not so many.
func cut(t *testing.T, done int, many int, fuse int) (a *array.Array, v *volume.Volume, finish func(*volume.Volume), is bool) {
	t.Helper()
	c := wide
	a, v = fresh(t, c)
	ok(t, "Replace", a.Replace(2))
	r := started(t, a, v, 1)
	for i := range done {
		step(t, r, 1, false, api.OK, c.Stripes-1-i)
	}
	ok(t, "Fuse", a.Fuse(fuse))
	ended, err := r.Step(many)
	if err == api.OK {
		return a, v, nil, false
	}
	if ended || err != api.ErrPower || r.Left() != c.Stripes-done {
		t.Errorf("cut: %v, %d, and %d left, not %d", ended, err, r.Left(), c.Stripes-done)
	}
	step(t, r, many, false, api.ErrPower, c.Stripes-done)
	finish = func(v *volume.Volume) {
		t.Helper()
		ok(t, "Again", r.Again(v))
		if r.Left() != c.Stripes-done {
			t.Errorf("Again: %d left, not %d", r.Left(), c.Stripes-done)
		}
		for n := done; n < c.Stripes; n++ {
			step(t, r, 1, n == c.Stripes-1, api.OK, c.Stripes-1-n)
		}
		anyMayFail(t, "behind a crash", a, v, textsOf(c))
	}
	return a, v, finish, true
}

// The power goes at each write of a step; the crash keeps any of what waits;
// then it goes on with a volume that is opened, or with the one that it had.
func TestStepCut(t *testing.T) { // P18.2, P18.4
	cuts := 0
	for done := range wide.Stripes {
		for _, many := range []int{1, 2, wide.Stripes} {
			for fuse := range 2 + 2*wide.Stripes {
				for kept := range 1 << 2 {
					for _, anew := range []bool{false, true} {
						a, v, finish, is := cut(t, done, many, fuse)
						if !is {
							continue
						}
						cuts++
						ok(t, "Crash", a.Crash([]bool{kept&1 != 0, kept&2 != 0}))
						if anew {
							v = opened(t, a)
						}
						finish(v)
					}
				}
			}
		}
	}
	// Each step writes to two disks: of stripe 0 the heads, too.
	if want := (4 + 6 + 10 + 2 + 4 + 6 + 2 + 4 + 4 + 2 + 2 + 2) * 4 * 2; cuts != want {
		t.Errorf("%d cuts, not %d", cuts, want)
	}
}

// Between two steps each stripe is written.
func TestWritesBetweenSteps(t *testing.T) { // P18.4
	for _, c := range layouts {
		for d := range conf.Disks(c) {
			for n := range c.Stripes {
				for at := range c.Stripes + 1 {
					a, v := fresh(t, c)
					texts := textsOf(c)
					r := started(t, a, v, d)
					for i := range c.Stripes {
						if i == at {
							ok(t, "Write", v.Write(n, "new"))
							texts[n] = "new"
						}
						step(t, r, 1, i == c.Stripes-1, api.OK, c.Stripes-1-i)
					}
					anyMayFail(t, "written between", a, v, texts)
				}
			}
		}
	}
}
