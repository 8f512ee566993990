package store_test

import (
	"math"
	"slices"
	"strings"
	"testing"

	"sheetpile/api"
	"sheetpile/array"
	"sheetpile/conf"
	"sheetpile/frame"
	"sheetpile/scan"
	"sheetpile/store"
)

// some are groups of a log, of 20, 21 and 19 bytes, that a wide half has room for.
var some = [][]api.Change{put("a", "1"), gone("a", "b"), put("c", "")}

func opensNot(t *testing.T, what string, a *array.Array, n int, want api.Errno) {
	t.Helper()
	if s, err := store.Open(a, n); s != nil || err != want {
		t.Errorf("%s: %v, %d, not %d", what, s, err, want)
	}
}

func TestOpen(t *testing.T) { // P23.1
	for n := range len(some) + 1 {
		p := plain{synced: some[:n]}
		for _, name := range []string{"A", "B"} {
			a := laid(t, wide, stripesOf(t, wide, name, textOf(t, some[:n]), "")...)
			if name == "B" {
				a = laid(t, wide, stripesOf(t, wide, name, "", textOf(t, some[:n]))...)
			}
			before := sectors(a, wide)
			p.is(t, "Open", opened(t, a))
			if !slices.Equal(sectors(a, wide), before) {
				t.Errorf("%s, %d groups: Open wrote", name, n)
			}
		}
	}
}

// What the other half has is of no moment, be it a log or not.
func TestOpenTakesOneHalf(t *testing.T) { // P23.1
	for _, other := range []string{"", "junk", textOf(t, some[1:]), strings.Repeat("G", roomOf(wide))} {
		one := textOf(t, some[:1])
		s := opened(t, laid(t, wide, stripesOf(t, wide, "A", one, other)...))
		plain{synced: some[:1]}.is(t, "half A", s)
		s = opened(t, laid(t, wide, stripesOf(t, wide, "B", other, one)...))
		plain{synced: some[:1]}.is(t, "half B", s)
	}
}

func TestOpenOfNoStore(t *testing.T) { // P23.1, R2
	opensNot(t, "nil", nil, id, api.ErrArg)
	opensNot(t, "no array", new(array.Array), id, api.ErrLost)
	opensNot(t, "blank disks", blank(t, wide), id, api.ErrLost)
	opensNot(t, "blank disks, without power", down(t), id, api.ErrPower)
	a, _ := fresh(t, wide)
	for _, n := range []int{math.MinInt, -1, 0, id - 1, id + 1, id + 1<<32, math.MaxInt} {
		opensNot(t, "another id", a, n, api.ErrLost)
	}
	goDown(t, a)
	opensNot(t, "without power", a, id, api.ErrPower)
}

func TestOpenOfFewStripes(t *testing.T) { // P23.1
	for stripes := 1; stripes < 3; stripes++ {
		for _, name := range []string{"", "A", "B"} {
			c := wide
			c.Stripes = stripes
			opensNot(t, "few stripes", laid(t, c, name), id, api.ErrLost)
		}
	}
}

func TestOpenOfNeitherHalf(t *testing.T) { // P23.1
	for _, name := range []string{"", "C", "a", "b", "AB", "BA", "AA", "A\x00", "\x00A", " B", "\x00", "A or B"} {
		opensNot(t, name, laid(t, wide, name, textOf(t, some)[:16]), id, api.ErrLost)
	}
}

// Stripe 0 and those of the half in use are asked for, and no other ones.
func TestOpenOfLostStripes(t *testing.T) { // P23.1
	for _, c := range layouts {
		count := (c.Stripes - 1) / 2
		for _, name := range []string{"A", "B"} {
			for n := range c.Stripes {
				a := laid(t, c, name)
				lose(t, a, c, n)
				isA, isB := n >= 1 && n <= count, n > count && n <= 2*count
				if n == 0 || name == "A" && isA || name == "B" && isB {
					opensNot(t, "a lost stripe", a, id, api.ErrLost)
				} else {
					plain{}.is(t, "another lost stripe", opened(t, a))
				}
			}
		}
	}
}

// A log is cut behind its last whole group, wherever its bytes end.
func TestOpenOfCutLogs(t *testing.T) { // P23.1, P23.5
	whole := textOf(t, some)
	for n := range len(whole) + 1 {
		p := plain{}
		for len(p.synced) < len(some) && size(some[:len(p.synced)+1]) <= n {
			p.synced = some[:len(p.synced)+1]
		}
		a := laid(t, wide, stripesOf(t, wide, "A", whole[:n], "")...)
		goesOn(t, "a cut log", a, p)
	}
}

// goesOn is that a log is opened as these groups, is cut behind them, and has
// what is written then.
func goesOn(t *testing.T, what string, a *array.Array, p plain) {
	t.Helper()
	s := opened(t, a)
	p.is(t, what, s)
	has(t, what, a, stripesOf(t, wide, "A", textOf(t, p.synced), ""))
	for _, l := range [][]api.Change{gone("x"), put("y", "")} {
		tells(t, what+", Update", s.Update(l), p.update(wide, l))
	}
	p.is(t, what+", Update", s)
	ok(t, what+", Sync", s.Sync())
	p.sync()
	p.is(t, what+", Sync", s)
	p.is(t, what+", Sync, opened", opened(t, a))
}

func TestOpenOfOtherLogs(t *testing.T) { // P23.1
	group := func(seq int, l []api.Change) string { return groupOf(t, seq, l) }
	zero, one := group(0, some[0]), group(1, some[0])
	wrongSum := one[:len(one)-1] + string(one[len(one)-1]^1)
	for _, behind := range []string{
		"x", "G", "\x00", "junk", strings.Repeat("G", 20),
		zero, group(2, some[0]), group(math.MaxUint32, some[0]),
		group(2, some[0]) + one, zero + one, "x" + one, wrongSum,
		wrongSum[:19] + group(1, gone("z")),
	} {
		a := laid(t, wide, stripesOf(t, wide, "A", zero+behind, "")...)
		goesOn(t, "what does not go on", a, plain{synced: some[:1]})
	}
	for _, all := range []string{"x", "x" + zero, "G", zero[:len(zero)-1], strings.Repeat("\x00", roomOf(wide))} {
		a := laid(t, wide, stripesOf(t, wide, "A", all, "")...)
		goesOn(t, "no group", a, plain{})
	}
}

// A log's groups are those that scan.All tells, whatever Seq the first one has:
// what is written goes on from the last one.
func TestOpenOfAnotherFirstSeq(t *testing.T) { // P23.1
	for _, first := range []int{1, 5, math.MaxUint32 - 1} {
		text, err := scan.Write(first, some[:1])
		ok(t, "scan.Write", err)
		a := laid(t, wide, stripesOf(t, wide, "A", text, "")...)
		p := plain{synced: some[:1]}
		s := opened(t, a)
		p.is(t, "Open", s)
		ok(t, "Update", s.Update(some[1]))
		ok(t, "Sync", s.Sync())
		p = plain{synced: some[:2]}
		p.is(t, "Sync", s)
		p.is(t, "Sync, opened", opened(t, a))
		ok(t, "Merge", s.Merge())
		p.merge()
		has(t, "Merge", a, stripesOf(t, wide, "B", text+groupOf(t, first+1, some[1]), textOf(t, p.synced)))
	}
	text, err := scan.Write(math.MaxUint32, some[:1])
	ok(t, "scan.Write", err)
	s := opened(t, laid(t, wide, stripesOf(t, wide, "A", text, "")...))
	plain{synced: some[:1]}.is(t, "the last Seq", s)
	tells(t, "Update behind the last Seq", s.Update(some[1]), api.ErrArg)
	plain{synced: some[:1]}.is(t, "Update behind the last Seq", s)
	ok(t, "Merge", s.Merge())
	ok(t, "Update behind a Merge", s.Update(some[1]))
}

func groupOf(t *testing.T, seq int, l []api.Change) string {
	t.Helper()
	s, err := frame.Write(frame.Group{Seq: seq, Changes: l})
	ok(t, "frame.Write", err)
	return s
}

// Stripes that a log's text does not reach are emptied, too.
func TestOpenEmptiesWhatIsBehind(t *testing.T) { // P23.1
	text := textOf(t, some[:1])
	for _, behind := range [][]string{{"", "junk"}, {"more", ""}, {"more", "junk"}, {text[:16], text[16:]}} {
		stripes := stripesOf(t, wide, "A", text, "")
		stripes[3], stripes[4] = behind[0], behind[1]
		goesOn(t, "stripes behind the text", laid(t, wide, stripes...), plain{synced: some[:1]})
	}
}

// With at most M disks failed a store is opened; with more it is lost.
func TestOpenOnDisksThatFailed(t *testing.T) { // P23.1, P23.5
	for _, c := range layouts {
		disks := conf.Disks(c)
		l := put("k", "v")
		for set := range 1 << disks {
			a, s := fresh(t, c)
			ok(t, "Update", s.Update(l))
			ok(t, "Sync", s.Sync())
			failed := 0
			for d := range disks {
				if set&(1<<d) != 0 {
					failed++
					ok(t, "Fail", a.Fail(d))
				}
			}
			if failed > c.M {
				opensNot(t, "too many disks failed", a, id, api.ErrLost)
			} else {
				plain{synced: [][]api.Change{l}}.is(t, "disks failed", opened(t, a))
			}
		}
	}
}

// A power that goes while a log is cut leaves no store; behind the crash it is
// opened with the same groups.
func TestOpenIsCut(t *testing.T) { // P23.1, P23.5
	p := plain{synced: some[:1]}
	text := textOf(t, some[:1]) + strings.Repeat("x", roomOf(wide)-20)
	whole := laid(t, wide, stripesOf(t, wide, "A", text, "")...)
	// Three of its four stripes are others than they were.
	all := 3 * (wide.M + 1 + conf.Disks(wide))
	for fuse := range all + 1 {
		for kept := range 1 << 3 {
			a := whole.Copy()
			ok(t, "Fuse", a.Fuse(fuse))
			s, err := store.Open(a, id)
			if fuse < all && (s != nil || err != api.ErrPower) || fuse == all && err != api.OK {
				t.Errorf("fuse %d: %v, %d", fuse, s, err)
			}
			ok(t, "Crash", a.Crash(bitsOf(kept, 3)))
			goesOn(t, "cut", a, p)
		}
	}
}

// bitsOf are a number's bits, as Crash takes them.
func bitsOf(set int, many int) []bool {
	keep := make([]bool, many)
	for i := range keep {
		keep[i] = set&(1<<i) != 0
	}
	return keep
}
