package ring_test

import (
	"math"
	"math/rand"
	"slices"
	"strings"
	"testing"

	"sheetpile/api"
	"sheetpile/block"
	"sheetpile/conf"
	"sheetpile/intent"
	"sheetpile/ring"
)

// maxSeq is the greatest one that intent.Write takes.
const maxSeq = 1<<56 - 1

var layout = api.Conf{K: 2, M: 1, Shard: 8, Stripes: 4, Slots: 3}

func in(seq, stripe int, text string) intent.Intent {
	return intent.Intent{Seq: seq, Stripe: stripe, Text: text}
}

func record(t *testing.T, i intent.Intent) string {
	t.Helper()
	s, err := intent.Write(i)
	if err != api.OK {
		t.Fatalf("intent.Write(%.60v): %d", i, err)
	}
	return s
}

func seal(t *testing.T, array, disk, place, epoch int, text string) string {
	t.Helper()
	s, err := block.Seal(block.Block{Array: array, Disk: disk, Place: place, Epoch: epoch, Text: text})
	if err != api.OK {
		t.Fatalf("block.Seal: %d", err)
	}
	return s
}

// own is an intent's sector on disk 1 of array 9.
func own(t *testing.T, place int, i intent.Intent) string {
	t.Helper()
	return seal(t, 9, 1, place, i.Seq, record(t, i))
}

func gathers(t *testing.T, what string, c api.Conf, sectors []string, want ...intent.Intent) {
	t.Helper()
	before := slices.Clone(sectors)
	for range 2 { // R6
		if got := ring.Gather(c, 9, 1, sectors); !slices.Equal(got, want) {
			t.Errorf("%s: %.200v, not %.200v", what, got, want)
		}
	}
	if !slices.Equal(sectors, before) {
		t.Errorf("%s: the sectors are changed", what)
	}
}

func TestNewest(t *testing.T) { // P15.1
	for _, x := range []struct {
		what    string
		l, want []intent.Intent
	}{
		{"nil", nil, nil},
		{"none", []intent.Intent{}, nil},
		{"one", []intent.Intent{in(0, 0, "")}, []intent.Intent{in(0, 0, "")}},
		{"one with a text", []intent.Intent{in(5, 3, "a")}, []intent.Intent{in(5, 3, "a")}},
		{"the chapter's example", []intent.Intent{in(1, 0, ""), in(2, 0, "")}, []intent.Intent{in(2, 0, "")}},
		{"rising", []intent.Intent{in(1, 0, "a"), in(2, 0, "b"), in(3, 0, "c")}, []intent.Intent{in(3, 0, "c")}},
		{"falling", []intent.Intent{in(3, 0, "a"), in(2, 0, "b"), in(1, 0, "c")}, []intent.Intent{in(3, 0, "a")}},
		{"the greatest between", []intent.Intent{in(1, 0, "a"), in(3, 0, "b"), in(2, 0, "c")}, []intent.Intent{in(3, 0, "b")}},
		{"equal", []intent.Intent{in(2, 0, "b"), in(2, 0, "a"), in(2, 0, "c")}, []intent.Intent{in(2, 0, "b")}},
		{"equal behind a lesser one", []intent.Intent{in(1, 0, "z"), in(2, 0, "b"), in(2, 0, "a")}, []intent.Intent{in(2, 0, "b")}},
		{"equal, and a lesser one between", []intent.Intent{in(2, 0, ""), in(1, 0, "z"), in(2, 0, "a")}, []intent.Intent{in(2, 0, "")}},
		{"stripes out of order", []intent.Intent{in(1, 7, "a"), in(2, 3, "b"), in(3, 5, "c"), in(0, 0, "d")}, []intent.Intent{in(0, 0, "d"), in(2, 3, "b"), in(3, 5, "c"), in(1, 7, "a")}},
		{"stripes below 0", []intent.Intent{in(1, 1, "a"), in(2, -1, "b"), in(3, -9, "c"), in(4, 0, "d"), in(1, -1, "e")}, []intent.Intent{in(3, -9, "c"), in(2, -1, "b"), in(4, 0, "d"), in(1, 1, "a")}},
		{"stripes at the ends", []intent.Intent{in(1, math.MaxInt, "a"), in(1, 0, "b"), in(1, math.MinInt, "c")}, []intent.Intent{in(1, math.MinInt, "c"), in(1, 0, "b"), in(1, math.MaxInt, "a")}},
		{"Seqs below 0", []intent.Intent{in(-5, 0, "a"), in(-3, 0, "b"), in(-4, 0, "c"), in(-1, 1, "d")}, []intent.Intent{in(-3, 0, "b"), in(-1, 1, "d")}},
		{"Seqs at the ends", []intent.Intent{in(math.MinInt, 0, "a"), in(math.MaxInt, 0, "b"), in(math.MinInt, 1, "c"), in(0, 0, "d")}, []intent.Intent{in(math.MaxInt, 0, "b"), in(math.MinInt, 1, "c")}},
		{"the greatest Seq of a record", []intent.Intent{in(maxSeq-1, 2, "a"), in(maxSeq, 2, "b"), in(maxSeq, 2, "c"), in(0, 2, "d")}, []intent.Intent{in(maxSeq, 2, "b")}},
	} {
		before := slices.Clone(x.l)
		for range 2 { // R6
			if got := ring.Newest(x.l); !slices.Equal(got, x.want) {
				t.Errorf("%s: %v, not %v", x.what, got, x.want)
			}
		}
		if !slices.Equal(x.l, before) {
			t.Errorf("%s: what was handed in is changed", x.what)
		}
	}
}

// The words of the promise, one intent held against each other one.
func TestNewestOfMany(t *testing.T) { // P15.1
	random := rand.New(rand.NewSource(15))
	for range 3000 {
		var l []intent.Intent
		for n := range random.Intn(12) {
			l = append(l, in(random.Intn(5)-1, random.Intn(5)-2, string(rune('a'+n))))
		}
		var want []intent.Intent
		for stripe := -2; stripe <= 2; stripe++ {
			for n, i := range l {
				isNewer := func(o intent.Intent) bool { return o.Stripe == stripe && o.Seq > i.Seq }
				isAsNew := func(o intent.Intent) bool { return o.Stripe == stripe && o.Seq == i.Seq }
				if i.Stripe == stripe && !slices.ContainsFunc(l, isNewer) && !slices.ContainsFunc(l[:n], isAsNew) {
					want = append(want, i)
				}
			}
		}
		if got := ring.Newest(l); !slices.Equal(got, want) {
			t.Fatalf("Newest(%v): %v, not %v", l, got, want)
		}
	}
}

func TestNewestIsNewMemory(t *testing.T) { // R5
	l := []intent.Intent{in(1, 0, "a"), in(2, 1, "b")}
	got := ring.Newest(l)
	got[0].Text, got[1].Seq = "z", 99
	if !slices.Equal(l, []intent.Intent{in(1, 0, "a"), in(2, 1, "b")}) {
		t.Errorf("what was handed in is changed: %v", l)
	}
}

func TestNext(t *testing.T) { // P15.1
	for _, x := range []struct {
		l    []intent.Intent
		want int
	}{
		{nil, 0},
		{[]intent.Intent{}, 0},
		{[]intent.Intent{in(0, 0, "")}, 1},
		{[]intent.Intent{in(5, 7, "a")}, 6},
		{[]intent.Intent{in(1, 0, ""), in(2, 0, ""), in(9, 3, "")}, 10},
		{[]intent.Intent{in(9, -1, ""), in(2, 0, ""), in(1, 3, "")}, 10},
		{[]intent.Intent{in(2, 0, ""), in(9, 1, ""), in(9, 2, ""), in(1, 3, "")}, 10},
		{[]intent.Intent{in(-1, 0, "")}, 0},
		{[]intent.Intent{in(-7, 0, ""), in(-5, 0, ""), in(-6, 0, "")}, -4},
		{[]intent.Intent{in(math.MinInt, 0, "")}, math.MinInt + 1},
		{[]intent.Intent{in(math.MinInt, 0, ""), in(-1, 0, ""), in(0, 0, "")}, 1},
		{[]intent.Intent{in(3, 0, ""), in(maxSeq, 0, ""), in(maxSeq-1, 0, "")}, maxSeq + 1},
		{[]intent.Intent{in(math.MaxInt-1, 0, ""), in(3, 0, "")}, math.MaxInt},
	} {
		before := slices.Clone(x.l)
		if got := ring.Next(x.l); got != x.want || ring.Next(x.l) != got {
			t.Errorf("Next(%v): %d, not %d", x.l, got, x.want)
		}
		if !slices.Equal(x.l, before) {
			t.Errorf("what was handed in is changed: %v", x.l)
		}
		if ring.Next(ring.Newest(x.l)) != x.want {
			t.Errorf("Next of the newest ones of %v is another one", x.l)
		}
	}
}

func TestGather(t *testing.T) { // P15.2
	a, b, c := in(3, 0, "x"), in(1, 3, ""), in(5, 2, "\x00\xFF")
	gathers(t, "all slots", layout, []string{"", own(t, 1, a), own(t, 2, b), own(t, 3, c)}, a, b, c)
	gathers(t, "others behind the slots", layout, []string{own(t, 1, a), own(t, 1, a), own(t, 2, b), own(t, 3, c), own(t, 4, a), own(t, 4, a)}, a, b, c)
	gathers(t, "one slot that is empty", layout, []string{"", own(t, 1, a), "", own(t, 3, c)}, a, c)
	gathers(t, "no slot", layout, []string{"", "", "", "", own(t, 1, a)})
	gathers(t, "twice one stripe", layout, []string{"", own(t, 1, in(0, 1, "a")), own(t, 2, in(4, 1, "b")), own(t, 3, in(2, 1, "c"))}, in(0, 1, "a"), in(4, 1, "b"), in(2, 1, "c"))
}

func TestGatherOfFewSectors(t *testing.T) { // P15.2, R1
	all := []intent.Intent{in(3, 0, "x"), in(1, 3, "y"), in(5, 2, "z")}
	sectors := []string{"", own(t, 1, all[0]), own(t, 2, all[1]), own(t, 3, all[2])}
	gathers(t, "nil", layout, nil)
	gathers(t, "none", layout, []string{})
	for n := range len(sectors) + 1 {
		gathers(t, "some", layout, sectors[:n], all[:max(n-1, 0)]...)
	}
}

func TestGatherOfLayoutsThatMayNotBe(t *testing.T) { // P15.2, R1
	sectors := []string{own(t, 0, in(0, 0, "")), own(t, 1, in(3, 0, "x")), own(t, 2, in(1, 3, "y")), own(t, 3, in(5, 2, "z"))}
	for _, change := range []func(*api.Conf){
		func(c *api.Conf) { *c = api.Conf{} },
		func(c *api.Conf) { c.K = 0 },
		func(c *api.Conf) { c.K = -1 },
		func(c *api.Conf) { c.M = 0 },
		func(c *api.Conf) { c.M = 255 },
		func(c *api.Conf) { c.Shard = 7 },
		func(c *api.Conf) { c.Shard = 1025 },
		func(c *api.Conf) { c.Stripes = 0 },
		func(c *api.Conf) { c.Stripes = 1001 },
		func(c *api.Conf) { c.Slots = 0 },
		func(c *api.Conf) { c.Slots = 17 },
		func(c *api.Conf) { c.Slots = -1 },
		func(c *api.Conf) { c.Slots = math.MaxInt },
		func(c *api.Conf) { c.K, c.Shard = 4, 1001 },
	} {
		c := layout
		change(&c)
		if conf.Check(c) == api.OK {
			t.Fatalf("%v may be", c)
		}
		gathers(t, "a layout that may not be", c, sectors)
	}
}

// Each sector that is no intent of slot 2 leaves those of the others as they are.
func TestGatherPassesOver(t *testing.T) { // P15.2, R1
	a, b, c := in(3, 0, "x"), in(1, 3, "y"), in(5, 2, "z")
	good := own(t, 2, b)
	turned := []byte(good)
	turned[len(turned)-6] ^= 1
	for what, s := range map[string]string{
		"nothing":                      "",
		"junk":                         "junk",
		"no block, but a record":       record(t, b),
		"a block that is cut":          good[:len(good)-1],
		"a block without its begin":    good[1:],
		"a block that is longer":       good + "\x00",
		"a block with a bit turned":    string(turned),
		"another array":                seal(t, 8, 1, 2, 1, record(t, b)),
		"another disk":                 seal(t, 9, 0, 2, 1, record(t, b)),
		"another place":                seal(t, 9, 1, 1, 1, record(t, b)),
		"a place that is no slot's":    seal(t, 9, 1, 5, 1, record(t, b)),
		"no record":                    seal(t, 9, 1, 2, 1, "junk"),
		"an empty text":                seal(t, 9, 1, 2, 1, ""),
		"a record that is cut":         seal(t, 9, 1, 2, 1, record(t, b)[:14]),
		"a record that is longer":      seal(t, 9, 1, 2, 1, record(t, b)+"\x00"),
		"a layout":                     seal(t, 9, 1, 2, 1, "CONF\x02\x00\x01\x00\x08\x00\x04\x00\x03\x00"),
		"the Seq of the slot ahead":    own(t, 2, in(0, 3, "y")),
		"the Seq of the slot behind":   own(t, 2, in(2, 3, "y")),
		"a greater Seq of another one": own(t, 2, in(3, 3, "y")),
		"the stripe behind the last":   own(t, 2, in(1, 4, "y")),
		"a stripe far behind":          own(t, 2, in(1, 65535, "y")),
	} {
		gathers(t, what, layout, []string{"", own(t, 1, a), s, own(t, 3, c)}, a, c)
	}
	gathers(t, "none of these", layout, []string{"", own(t, 1, a), good, own(t, 3, c)}, a, b, c)
}

func TestGatherOfAnotherDisk(t *testing.T) { // P15.2, R1
	sectors := []string{"", own(t, 1, in(3, 0, "x")), own(t, 2, in(1, 3, "y")), own(t, 3, in(5, 2, "z"))}
	for _, x := range [][2]int{{8, 1}, {9, 0}, {9, 2}, {0, 0}, {-9, 1}, {9, -1}, {9 + 1<<32, 1}, {9, 1 + 1<<16}, {math.MaxInt, 1}, {9, math.MinInt}} {
		if got := ring.Gather(layout, x[0], x[1], sectors); len(got) != 0 {
			t.Errorf("array %d, disk %d: %v", x[0], x[1], got)
		}
	}
}

func TestGatherAtTheEdges(t *testing.T) { // P15.2
	for _, i := range []intent.Intent{in(0, 0, ""), in(maxSeq, 0, "a"), in(maxSeq-1, 3, "a"), in(maxSeq-2, 3, strings.Repeat("t", 4000))} {
		place := conf.Slot(layout, i.Seq)
		sectors := make([]string, 4)
		sectors[place] = own(t, place, i)
		gathers(t, "one", layout, sectors, i)
		// The block's own Epoch is not asked for.
		sectors[place] = seal(t, 9, 1, place, 77, record(t, i))
		gathers(t, "another Epoch", layout, sectors, i)
	}
	one := api.Conf{K: 1, M: 1, Shard: 8, Stripes: 1, Slots: 1}
	gathers(t, "one slot, one stripe", one, []string{"", own(t, 1, in(999, 0, "a"))}, in(999, 0, "a"))
	gathers(t, "one slot, another stripe", one, []string{"", own(t, 1, in(999, 1, "a"))})
	most := api.Conf{K: 1, M: 1, Shard: 8, Stripes: 1000, Slots: 16}
	var want []intent.Intent
	sectors := []string{""}
	for n := range 16 {
		want = append(want, in(16*(15-n)+n, 999-n, "a"))
		sectors = append(sectors, own(t, 1+n, want[n]))
	}
	gathers(t, "as many slots as may be", most, append(sectors, own(t, 17, in(0, 0, ""))), want...)
}

// Whichever disks have no copy, one that has it is enough.
func TestCopies(t *testing.T) { // P15.3
	all := []intent.Intent{in(3, 0, "x"), in(1, 3, "y"), in(5, 2, "z")}
	for left := 1; left < 8; left++ {
		var l []intent.Intent
		for disk := range 3 {
			sectors := make([]string, 4)
			for n, i := range all {
				if left&(1<<disk) != 0 {
					sectors[n+1] = seal(t, 9, disk, n+1, i.Seq, record(t, i))
				} else if disk%2 == 0 {
					sectors[n+1] = "junk"
				}
			}
			l = append(l, ring.Gather(layout, 9, disk, sectors)...)
		}
		if got := ring.Newest(l); !slices.Equal(got, []intent.Intent{all[0], all[2], all[1]}) || ring.Next(l) != 6 {
			t.Errorf("copies on %b: %v", left, got)
		}
	}
}
