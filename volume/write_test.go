package volume_test

import (
	"math"
	"math/bits"
	"strings"
	"testing"

	"sheetpile/api"
	"sheetpile/array"
	"sheetpile/block"
	"sheetpile/conf"
	"sheetpile/intent"
	"sheetpile/volume"
)

func TestWriteAndRead(t *testing.T) { // P16.2, P16.3
	for _, c := range layouts {
		a, v := made(t, c)
		want, texts := asMade(t, c), make([]string, c.Stripes)
		for seq, s := range []string{"a", "", "\x00", "a\x00", fill(conf.Capacity(c)), "\xFF\x80", "b", "b", strings.Repeat("\x00", conf.Capacity(c)), "INT", "last"} {
			n := seq * seq % c.Stripes
			if v.Seq() != seq {
				t.Errorf("%v: Seq is %d, not %d", c, v.Seq(), seq)
			}
			ok(t, "Write", v.Write(n, s))
			texts[n] = s
			want.setRecords(t, c, intent.Intent{Seq: seq, Stripe: n, Text: s})
			want.setShards(t, c, n, seq+1, s)
			hasFlushed(t, "Write", a, want)
			reads(t, "Write", v, texts...)
			healthy(t, "Write", v, c.K+c.M)
			again := opened(t, a)
			hasFlushed(t, "opened", a, want)
			reads(t, "opened", again, texts...)
			if again.Seq() != seq+1 || again.Conf() != c {
				t.Errorf("opened: %d, %v", again.Seq(), again.Conf())
			}
		}
	}
}

// What fails and what is written is held against each other for each set of
// disks that do not work.
func TestWriteOnDisksThatFailed(t *testing.T) { // P16.2, P16.3, P16.5, R3
	for _, c := range layouts {
		disks := c.K + c.M
		for set := range 1 << disks {
			a, v := made(t, c)
			ok(t, "Write", v.Write(0, "old"))
			ok(t, "Write", v.Write(1, "other"))
			failSet(t, a, set)
			want := dump(a, conf.Sectors(c))
			left, journal := disks-bits.OnesCount(uint(set)), c.M+1-bits.OnesCount(uint(set&(1<<(c.M+1)-1)))
			err := v.Write(0, "new")
			if left < c.K || journal == 0 {
				if err != api.ErrLost || v.Seq() != 2 {
					t.Errorf("%v, failed %b: %d, and Seq is %d", c, set, err, v.Seq())
				}
				hasFlushed(t, "nothing is written", a, want)
				continue
			}
			if err != api.OK || v.Seq() != 3 {
				t.Errorf("%v, failed %b: %d, and Seq is %d", c, set, err, v.Seq())
			}
			want.setRecords(t, c, intent.Intent{Seq: 2, Stripe: 0, Text: "new"})
			want.setShards(t, c, 0, 3, "new")
			hasFlushed(t, "it is written", a, want)
			reads(t, "it is written", v, "new", "other")
			healthy(t, "it is written", v, left)
			reads(t, "it is opened", opened(t, a), "new", "other")
		}
	}
}

// Each fault comes with each other one: the one that is named first is told.
func TestWriteTellsTheFirstError(t *testing.T) { // P16.2, R2, R3
	c := layouts[3]
	for _, n := range []int{-1, 0, c.Stripes - 1, c.Stripes, math.MaxInt, math.MinInt} {
		for _, length := range []int{0, conf.Capacity(c), conf.Capacity(c) + 1, 70000} {
			for _, down := range []bool{false, true} {
				for set := range 1 << 4 {
					a, v := made(t, c)
					if down {
						goDown(t, a)
					}
					failSet(t, a, set)
					want := api.OK
					switch {
					case n < 0 || n >= c.Stripes:
						want = api.ErrArg
					case length > conf.Capacity(c):
						want = api.ErrBig
					case down:
						want = api.ErrPower
					case bits.OnesCount(uint(set)) > 2 || set&7 == 7:
						want = api.ErrLost
					}
					if err := v.Write(n, fill(length)); err != want || v.Seq() != 0 && err != api.OK {
						t.Errorf("Write(%d, %d bytes), power gone %v, failed %b: %d, not %d", n, length, down, set, err, want)
					}
					if want == api.OK {
						continue
					}
					ok(t, "Crash", a.Crash(bitsOf(-1, 99)))
					expect := asMade(t, c)
					for d := range expect {
						if !a.Alive(d) {
							expect[d] = nil
						}
					}
					has(t, "nothing is written", a, expect)
				}
			}
		}
	}
}

func TestReadHealthMendTellTheFirstError(t *testing.T) { // P16.3, R2, R3
	c := layouts[3]
	for _, n := range []int{-1, 0, c.Stripes - 1, c.Stripes, math.MaxInt, math.MinInt} {
		for _, down := range []bool{false, true} {
			for set := range 1 << 4 {
				a, v := made(t, c)
				for n := range c.Stripes {
					ok(t, "Write", v.Write(n, "text"))
				}
				if down {
					goDown(t, a)
				}
				failSet(t, a, set)
				left := 4 - bits.OnesCount(uint(set))
				want, text := api.OK, "text"
				switch {
				case n < 0 || n >= c.Stripes:
					want = api.ErrArg
				case down:
					want = api.ErrPower
				case left < c.K:
					want = api.ErrLost
				}
				if want != api.OK {
					text, left = "", 0
				}
				if s, err := v.Read(n); s != text || err != want {
					t.Errorf("Read(%d), power gone %v, failed %b: %q, %d", n, down, set, s, err)
				}
				if many, err := v.Health(n); many != left || err != want {
					t.Errorf("Health(%d), power gone %v, failed %b: %d, %d", n, down, set, many, err)
				}
				if many, err := v.Mend(n); many != 0 || err != want {
					t.Errorf("Mend(%d), power gone %v, failed %b: %d, %d", n, down, set, many, err)
				}
				wantHeads := api.OK
				if down {
					wantHeads = api.ErrPower
				}
				if many, err := v.Heads(); many != 0 || err != wantHeads {
					t.Errorf("Heads, power gone %v, failed %b: %d, %d", down, set, many, err)
				}
			}
		}
	}
}

// A power that goes at each write of a Write: intents are flushed ahead of the
// first shard, and shards behind the last one.
func TestWriteCut(t *testing.T) { // P16.2, R3
	for _, c := range layouts {
		disks := c.K + c.M
		for set := range 1 << disks {
			if bits.OnesCount(uint(set)) > c.M {
				continue
			}
			journal := c.M + 1 - bits.OnesCount(uint(set&(1<<(c.M+1)-1)))
			writes := journal + disks - bits.OnesCount(uint(set))
			for fuse := range writes + 1 {
				a, v := made(t, c)
				ok(t, "Write", v.Write(0, "old"))
				failSet(t, a, set)
				want := dump(a, conf.Sectors(c))
				ok(t, "Fuse", a.Fuse(fuse))
				err := v.Write(0, "new")
				cut := fuse < writes
				if cut && (err != api.ErrPower || v.Seq() != 1) || !cut && (err != api.OK || v.Seq() != 2) || a.Down() != cut {
					t.Errorf("%v, failed %b, fuse %d: %d, and Seq is %d", c, set, fuse, err, v.Seq())
				}
				if err := v.Write(0, "behind"); err != api.ErrPower {
					t.Errorf("%v, failed %b, fuse %d: a second Write: %d", c, set, fuse, err)
				}
				if _, err := v.Read(0); err != api.ErrPower {
					t.Errorf("%v, failed %b, fuse %d: Read: %d", c, set, fuse, err)
				}
				ok(t, "Crash", a.Crash(nil))
				if fuse >= journal {
					want.setRecords(t, c, intent.Intent{Seq: 1, Stripe: 0, Text: "new"})
				}
				if !cut {
					want.setShards(t, c, 0, 2, "new")
				}
				has(t, "nothing that waited is kept", a, want)
			}
		}
	}
}

// What each disk has of a stripe in the tests of epochs.
type state int

const (
	dead state = iota
	blank
	junk
	first       // Epoch 0
	third       // Epoch 3
	eighth      // Epoch 8
	othersDisk  // another disk's shard
	othersPlace // another stripe's
	othersArray
	short
	long
	states
)

// textOfEpoch is what a stripe had when it had that epoch.
func textOfEpoch(epoch int) string {
	return []string{"", "", "", "three", "", "", "", "", "eight"}[epoch]
}

func (s state) epoch() int {
	switch s {
	case first:
		return 0
	case third:
		return 3
	case eighth:
		return 8
	}
	return -1
}

func (s state) sector(t *testing.T, c api.Conf, d int, n int) string {
	t.Helper()
	place := 1 + c.Slots + n
	switch s {
	case first, third, eighth:
		return shardOf(t, c, d, n, s.epoch(), textOfEpoch(s.epoch()))
	case junk:
		return shardOf(t, c, d, n, 9, "junk") + "\x00"
	case othersDisk:
		return shardOf(t, c, (d+1)%(c.K+c.M), n, 9, "disk")
	case othersPlace:
		return shardOf(t, c, d, (n+1)%c.Stripes, 9, "place")
	case othersArray:
		return seal(t, block.Block{Array: id + 1, Disk: d, Place: place, Epoch: 9, Text: fill(c.Shard)})
	case short:
		return seal(t, block.Block{Array: id, Disk: d, Place: place, Epoch: 9, Text: fill(c.Shard - 1)})
	case long:
		return seal(t, block.Block{Array: id, Disk: d, Place: place, Epoch: 9, Text: fill(c.Shard + 1)})
	}
	return ""
}

// statesOf counts through what each disk may have.
func statesOf(number int, many int) []state {
	l := make([]state, many)
	for d := range l {
		l[d] = state(number % int(states))
		number /= int(states)
	}
	return l
}

// greatest is the stripe's epoch: the greatest one of which there are K, or -1.
func greatest(l []state, k int) (epoch int, many int) {
	for _, e := range []state{eighth, third, first} {
		many := 0
		for _, s := range l {
			if s == e {
				many++
			}
		}
		if many >= k {
			return e.epoch(), many
		}
	}
	return -1, 0
}

// All that each disk may have: the epoch is counted by hand.
func TestEpochs(t *testing.T) { // P16.3, P16.5, R3, R6
	for _, c := range []api.Conf{{K: 1, M: 1, Shard: 16, Stripes: 2, Slots: 1}, {K: 2, M: 1, Shard: 8, Stripes: 2, Slots: 1}, {K: 1, M: 2, Shard: 16, Stripes: 2, Slots: 1}} {
		numbers := int(math.Pow(float64(states), float64(c.K+c.M)))
		for number := range numbers {
			l := statesOf(number, c.K+c.M)
			a, v := made(t, c)
			want := asMade(t, c)
			for d, s := range l {
				want[d][1+c.Slots+1] = s.sector(t, c, d, 1)
				if s == dead {
					want[d] = nil
				}
			}
			lay(t, a, want)
			look(t, c, a, v, l, want)
		}
	}
}

// look holds Read, Health and Mend of stripe 1 against what the disks have.
func look(t *testing.T, c api.Conf, a *array.Array, v *volume.Volume, l []state, want disks) {
	t.Helper()
	epoch, health := greatest(l, c.K)
	wantErr, text, lacking, working := api.OK, "", 0, 0
	for _, s := range l {
		if s != dead {
			working++
		}
	}
	if epoch < 0 {
		wantErr = api.ErrLost
	} else {
		text, lacking = textOfEpoch(epoch), working-health
	}
	for range 2 {
		if s, err := v.Read(1); s != text || err != wantErr {
			t.Errorf("%v, %d: Read: %q, %d", c, l, s, err)
		}
		if many, err := v.Health(1); many != health || err != wantErr {
			t.Errorf("%v, %d: Health: %d, %d", c, l, many, err)
		}
	}
	hasFlushed(t, "nothing is written", a, want)
	// There are just as many writes left as are to be done.
	ok(t, "Fuse", a.Fuse(lacking))
	if many, err := v.Mend(1); many != lacking || err != wantErr {
		t.Errorf("%v, %d: Mend: %d, %d", c, l, many, err)
	}
	if epoch >= 0 {
		want.setShards(t, c, 1, epoch, text)
		health = working
	}
	hasFlushed(t, "mended", a, want)
	if s, err := v.Read(1); s != text || err != wantErr {
		t.Errorf("%v, %d: Read: %q, %d", c, l, s, err)
	}
	if many, err := v.Health(1); many != health || err != wantErr {
		t.Errorf("%v, %d: Health: %d, %d", c, l, many, err)
	}
	if many, err := v.Mend(1); many != 0 || err != wantErr {
		t.Errorf("%v, %d: Mend again: %d, %d", c, l, many, err)
	}
}

// Shards of one epoch that are no text's: they are counted, and tell nothing.
func TestShardsThatAreNoTexts(t *testing.T) { // P16.3, R3
	a, v := made(t, layout)
	bad := func(d int, text string) {
		t.Helper()
		ok(t, "Corrupt", a.Corrupt(d, 4, seal(t, block.Block{Array: id, Disk: d, Place: 4, Epoch: 5, Text: text})))
	}
	for _, texts := range [][2]string{{"\xFF\xFF\xFF\xFFabcd", "efghijkl"}, {"\x0D\x00\x00\x00abcd", "efghijkl"}, {"\x00\x00\x00\x00\x00\x00\x00\x00", "\x00\x00\x00\x00\x00\x00\x00\x01"}} {
		bad(0, texts[0])
		bad(1, texts[1])
		want := dump(a, conf.Sectors(layout))
		if s, err := v.Read(1); s != "" || err != api.ErrLost {
			t.Errorf("%q: Read: %q, %d", texts, s, err)
		}
		if many, err := v.Mend(1); many != 0 || err != api.ErrLost {
			t.Errorf("%q: Mend: %d, %d", texts, many, err)
		}
		if many, err := v.Health(1); many != 2 || err != api.OK {
			t.Errorf("%q: Health: %d, %d", texts, many, err)
		}
		hasFlushed(t, "nothing is mended", a, want)
	}
	// Written again, it is read.
	ok(t, "Write", v.Write(1, "one"))
	reads(t, "written again", v, "", "one", "")
}

func TestMendAndHeadsOfBlankDisks(t *testing.T) { // P16.3, P16.5
	for _, c := range layouts {
		disks := c.K + c.M
		texts := []string{"zero", "", "two"}[:c.Stripes]
		for set := range 1 << disks {
			a, v := made(t, c)
			ok(t, "Write", v.Write(0, "old"))
			ok(t, "Write", v.Write(0, "zero"))
			if c.Stripes > 2 {
				ok(t, "Write", v.Write(2, "two"))
			}
			want, seq := dump(a, conf.Sectors(c)), v.Seq()
			many := bits.OnesCount(uint(set))
			for d := range disks {
				if set&(1<<d) != 0 {
					ok(t, "Replace", a.Replace(d))
					want[d] = make([]string, conf.Sectors(c))
					want[d][0] = headOf(t, c, d)
				}
			}
			ok(t, "Fuse", a.Fuse(many))
			if got, err := v.Heads(); got != many || err != api.OK {
				t.Errorf("%v, blank %b: Heads: %d, %d", c, set, got, err)
			}
			hasFlushed(t, "heads", a, want)
			if got, err := v.Heads(); got != 0 || err != api.OK {
				t.Errorf("%v, blank %b: Heads again: %d, %d", c, set, got, err)
			}
			ok(t, "Crash", a.Crash(nil))
			for n := range c.Stripes {
				got, err := v.Mend(n)
				if many > c.M && (got != 0 || err != api.ErrLost) || many <= c.M && (got != many || err != api.OK) {
					t.Errorf("%v, blank %b: Mend(%d): %d, %d", c, set, n, got, err)
				}
			}
			if many > c.M {
				hasFlushed(t, "nothing is mended", a, want)
				continue
			}
			for n, epoch := range []int{2, 0, 3}[:c.Stripes] {
				want.setShards(t, c, n, epoch, texts[n])
			}
			hasFlushed(t, "mended", a, want)
			reads(t, "mended", v, texts...)
			healthy(t, "mended", v, disks)
			if v.Seq() != seq {
				t.Errorf("Seq is %d, not %d", v.Seq(), seq)
			}
		}
	}
}

func TestMendWithADiskThatDoesNotWork(t *testing.T) { // P16.3
	c := layouts[3]
	a, v := made(t, c)
	ok(t, "Write", v.Write(1, "one"))
	want := dump(a, conf.Sectors(c))
	ok(t, "Fail", a.Fail(0))
	want[0] = nil
	ok(t, "Replace", a.Replace(3))
	if many, err := v.Heads(); many != 1 || err != api.OK {
		t.Errorf("Heads: %d, %d", many, err)
	}
	for n := range c.Stripes {
		if many, err := v.Mend(n); many != 1 || err != api.OK {
			t.Errorf("Mend(%d): %d, %d", n, many, err)
		}
	}
	hasFlushed(t, "mended", a, want)
	healthy(t, "mended", v, 3)
}

func TestHeadsOfOthers(t *testing.T) { // P16.3
	other := layout
	other.Slots = 3
	for what, s := range map[string]string{
		"nothing":            "",
		"junk":               "junk",
		"another layout":     headOf(t, other, 1),
		"another disk":       headOf(t, layout, 0),
		"another place":      shardOf(t, layout, 1, 0, 0, ""),
		"another array":      seal(t, block.Block{Array: id + 1, Disk: 1, Text: "CONF\x02\x00\x01\x00\x08\x00\x03\x00\x02\x00"}),
		"no layout":          seal(t, block.Block{Array: id, Disk: 1, Text: "CONF"}),
		"one that is longer": seal(t, block.Block{Array: id, Disk: 1, Text: "CONF\x02\x00\x01\x00\x08\x00\x03\x00\x02\x00\x00"}),
	} {
		a, v := made(t, layout)
		ok(t, "Corrupt", a.Corrupt(1, 0, s))
		if many, err := v.Heads(); many != 1 || err != api.OK {
			t.Errorf("%s: %d, %d", what, many, err)
		}
		hasFlushed(t, what, a, asMade(t, layout))
	}
}

func TestMendAndHeadsCut(t *testing.T) { // P16.3, R3
	c := layouts[3]
	for fuse := range 3 {
		a, v := made(t, c)
		ok(t, "Write", v.Write(0, "zero"))
		full := dump(a, conf.Sectors(c))
		ok(t, "Replace", a.Replace(1))
		ok(t, "Replace", a.Replace(2))
		want := dump(a, conf.Sectors(c))
		b := a.Copy()
		ok(t, "Fuse", a.Fuse(fuse))
		many, err := v.Mend(0)
		if fuse < 2 && (many != 0 || err != api.ErrPower) || fuse == 2 && (many != 2 || err != api.OK) {
			t.Errorf("fuse %d: Mend: %d, %d", fuse, many, err)
		}
		ok(t, "Crash", a.Crash(nil))
		if fuse == 2 {
			want[1][3], want[2][3] = full[1][3], full[2][3]
		}
		has(t, "Mend", a, want)
		reads(t, "Mend", v, "zero", "", "")
		w := opened(t, b)
		want = dump(b, conf.Sectors(c))
		ok(t, "Fuse", b.Fuse(fuse))
		many, err = w.Heads()
		if fuse < 2 && (many != 0 || err != api.ErrPower) || fuse == 2 && (many != 2 || err != api.OK) {
			t.Errorf("fuse %d: Heads: %d, %d", fuse, many, err)
		}
		ok(t, "Crash", b.Crash(nil))
		if fuse == 2 {
			want[1][0], want[2][0] = full[1][0], full[2][0]
		}
		has(t, "Heads", b, want)
	}
}
