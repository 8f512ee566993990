package store

import (
	"slices"
	"strings"
	"testing"

	"sheetpile/api"
	"sheetpile/array"
	"sheetpile/conf"
)

// No log has a map that needs more bytes than the log itself, so this one is
// laid by hand: of it Merge tells ErrFull, behind its Sync, and ahead of all else.
func TestMergeOfAMapThatDoesNotGoIn(t *testing.T) { // P23.4
	c := api.Conf{K: 2, M: 1, Shard: 10, Stripes: 9, Slots: 2}
	for _, down := range []bool{false, true} {
		for beyond := range 3 {
			a, _ := array.New(conf.Disks(c), conf.Sectors(c), conf.Size(c))
			s, err := Make(a, c, 1)
			if err != api.OK {
				t.Fatalf("Make: %d", err)
			}
			s.Update([]api.Change{{Key: "a", Value: "1"}})
			if down {
				s.Sync()
				a.Fuse(0)
				a.Write(0, 0, "")
			}
			s.pairs = []api.Pair{{Key: "f", Value: strings.Repeat("v", 4*16-19+beyond)}}
			want := api.OK
			if beyond > 0 {
				want = api.ErrFull
			} else if down {
				want = api.ErrPower
			}
			if err := s.Merge(); err != want || s.Pending() != 0 {
				t.Errorf("%d bytes too much, power gone %v: %d, not %d; %d wait", beyond, down, err, want, s.Pending())
			}
			if want == api.ErrFull {
				a.Crash(nil)
				isMergedNot(t, a, s)
			}
		}
	}
}

// isMergedNot is that what was in use is in use still, and what waited is synced.
func isMergedNot(t *testing.T, a *array.Array, s *Store) {
	t.Helper()
	if s.Used() != 20 || s.Pending() != 0 {
		t.Errorf("%d bytes used, %d wait", s.Used(), s.Pending())
	}
	for n, want := range []string{"A", s.Text()[:16], s.Text()[16:], "", "", "", "", "", ""} {
		if got, err := s.Volume().Read(n); got != want || err != api.OK {
			t.Errorf("stripe %d has %q, %d, not %q", n, got, err, want)
		}
	}
	again, err := Open(a, 1)
	if v, _ := again.Get("a"); v != "1" || err != api.OK || !slices.Equal(again.List(), []string{"a"}) {
		t.Errorf("opened: %q, %d", v, err)
	}
}
