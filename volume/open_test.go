package volume_test

import (
	"math"
	"math/bits"
	"testing"

	"sheetpile/api"
	"sheetpile/array"
	"sheetpile/block"
	"sheetpile/conf"
	"sheetpile/intent"
	"sheetpile/volume"
)

func TestOpenTellsTheFirstError(t *testing.T) { // P16.4, R2, R3
	for _, number := range []int{id, 0, -1, 1 << 32, math.MaxInt, math.MinInt} {
		if v, err := volume.Open(nil, number); v != nil || err != api.ErrArg {
			t.Errorf("Open(nil, %d): %d", number, err)
		}
		if v, err := volume.Open(new(array.Array), number); v != nil || err != api.ErrLost {
			t.Errorf("Open of no disks, %d: %d", number, err)
		}
		if v, err := volume.Open(arrayOf(t, layout), number); v != nil || err != api.ErrLost {
			t.Errorf("Open of blank disks, %d: %d", number, err)
		}
		for _, down := range []bool{false, true} {
			for set := range 8 {
				a, _ := made(t, layout)
				if down {
					goDown(t, a)
				}
				failSet(t, a, set)
				want := api.OK
				switch {
				case down:
					want = api.ErrPower
				case set == 7 || number != id:
					want = api.ErrLost
				}
				if v, err := volume.Open(a, number); err != want || (v == nil) != (want != api.OK) {
					t.Errorf("Open, %d, power gone %v, failed %b: %d, not %d", number, down, set, err, want)
				}
			}
		}
	}
}

// The first disk's head is taken whose layout may be, of as many disks.
func TestOpenOfHeads(t *testing.T) { // P16.4, P16.3
	other := api.Conf{K: 1, M: 2, Shard: 9, Stripes: 2, Slots: 1}
	const dead = "dead"
	no := func(d int) []string {
		return []string{
			"", "junk", dead,
			headOf(t, layout, (d+1)%3),
			headOf(t, layout, d)[1:],
			seal(t, block.Block{Array: id + 1, Disk: d, Text: "CONF\x02\x00\x01\x00\x08\x00\x03\x00\x02\x00"}),
			seal(t, block.Block{Array: id, Disk: d, Place: 1, Text: "CONF\x02\x00\x01\x00\x08\x00\x03\x00\x02\x00"}),
			seal(t, block.Block{Array: id, Disk: d, Text: "CONF\x02\x00\x01\x00\x07\x00\x03\x00\x02\x00"}),
			seal(t, block.Block{Array: id, Disk: d, Text: "CONF\x03\x00\x00\x00\x08\x00\x03\x00\x02\x00"}),
			seal(t, block.Block{Array: id, Disk: d, Text: "CONF"}),
			headOf(t, api.Conf{K: 1, M: 1, Shard: 9, Stripes: 2, Slots: 1}, d),
			headOf(t, api.Conf{K: 2, M: 2, Shard: 8, Stripes: 3, Slots: 2}, d),
		}
	}
	for number := range len(no(0)) * len(no(1)) {
		bad := []string{no(0)[number%len(no(0))], no(1)[number/len(no(0))]}
		for _, heads := range [][]string{
			{headOf(t, layout, 0), bad[1], headOf(t, other, 2)},
			{headOf(t, layout, 0), headOf(t, other, 1), bad[1]},
			{bad[0], headOf(t, layout, 1), headOf(t, other, 2)},
			{bad[0], bad[1], headOf(t, layout, 2)},
			{headOf(t, other, 0), bad[1], headOf(t, layout, 2)},
			{bad[0], bad[1], ""},
		} {
			a := arrayOf(t, layout)
			lacking, want, wantErr := 0, api.Conf{}, api.ErrLost
			for d, s := range heads {
				if s == dead {
					ok(t, "Fail", a.Fail(d))
					continue
				}
				ok(t, "Corrupt", a.Corrupt(d, 0, s))
				for _, c := range []api.Conf{layout, other} {
					if s == headOf(t, c, d) && wantErr != api.OK {
						want, wantErr = c, api.OK
					}
				}
			}
			v, err := volume.Open(a, id)
			if err != wantErr || v.Conf() != want || v.Seq() != 0 {
				t.Errorf("heads %q: %d, %v", heads, err, v.Conf())
			}
			if v == nil {
				continue
			}
			for d, s := range heads {
				if s != dead && s != headOf(t, want, d) {
					lacking++
				}
			}
			if many, err := v.Heads(); many != lacking || err != api.OK {
				t.Errorf("heads %q: Heads: %d, %d, not %d", heads, many, err, lacking)
			}
			for d, s := range heads {
				if got, _ := a.Read(d, 0); s != dead && got != headOf(t, want, d) {
					t.Errorf("heads %q: disk %d has %q", heads, d, got)
				}
			}
		}
	}
}

// What a disk's slots and its shard of stripe 1 are in the tests of Open: its
// epoch, none being -1, and whether it works; the Seq of its intent, none
// being -1.
type had struct {
	works bool
	epoch int
	seq   int
}

func (h had) lay(t *testing.T, c api.Conf, d int, sectors []string) {
	t.Helper()
	sectors[1+c.Slots+1] = ""
	if h.epoch >= 0 {
		sectors[1+c.Slots+1] = shardOf(t, c, d, 1, h.epoch, textBehind(h.epoch-1))
	}
	if h.seq >= 0 {
		sectors[1+h.seq%c.Slots] = recordOf(t, c, d, intent.Intent{Seq: h.seq, Stripe: 1, Text: textBehind(h.seq)})
	}
}

// textBehind is a stripe's text behind the write of that Seq.
func textBehind(seq int) string { return []string{"", "0", "1", "2", "3", "4", "5"}[seq+1] }

// hads are all that a disk may have had; intents are on the first M + 1 alone.
func hads(isJournal bool) []had {
	l := []had{{}}
	for _, epoch := range []int{-1, 0, 3, 4, 5} {
		l = append(l, had{true, epoch, -1})
		if isJournal {
			l = append(l, had{true, epoch, 2}, had{true, epoch, 3})
		}
	}
	return l
}

// isToRedo tells by the words of P16.4 whether an intent of that Seq is written again.
func isToRedo(l []had, seq int) bool {
	all := true
	for _, h := range l {
		if h.works && h.epoch > seq+1 {
			return false
		}
		all = all && (!h.works || h.epoch == seq+1)
	}
	return !all
}

// All that disks may have of a stripe and of its intents, older and newer.
func TestOpenWritesAgain(t *testing.T) { // P16.4, P16.5
	for _, c := range []api.Conf{layout, {K: 1, M: 1, Shard: 8, Stripes: 2, Slots: 1}} {
		var l []had
		var each func(d int)
		each = func(d int) {
			if d == c.K+c.M {
				openHad(t, c, l)
				return
			}
			for _, h := range hads(d <= c.M) {
				l = append(l, h)
				each(d + 1)
				l = l[:d]
			}
		}
		each(0)
	}
}

func openHad(t *testing.T, c api.Conf, l []had) {
	t.Helper()
	a := arrayOf(t, c)
	want := asMade(t, c)
	newest, latest, works := -1, 0, false
	for d, h := range l {
		if !h.works {
			want[d] = nil
			continue
		}
		h.lay(t, c, d, want[d])
		newest, latest, works = max(newest, h.seq), max(latest, h.epoch), true
	}
	lay(t, a, want)
	redo, writes := newest >= 0 && isToRedo(l, newest), 0
	for _, h := range l {
		if h.works && redo {
			writes++
		}
	}
	// There are just as many writes left as are to be done.
	ok(t, "Fuse", a.Fuse(writes))
	v, err := volume.Open(a, id)
	if !works {
		if v != nil || err != api.ErrLost {
			t.Errorf("%v, %v: %d", c, l, err)
		}
		return
	}
	if redo {
		want.setShards(t, c, 1, newest+1, textBehind(newest))
	}
	if err != api.OK || v.Conf() != c || v.Seq() != max(newest+1, latest) {
		t.Errorf("%v, %v: %d, and Seq is %d", c, l, err, v.Seq())
	}
	hasFlushed(t, "opened", a, want)
	// Opened again, nothing is another one.
	if v = opened(t, a); v.Seq() != max(newest+1, latest) {
		t.Errorf("%v, %v: opened again, Seq is %d", c, l, v.Seq())
	}
	hasFlushed(t, "opened again", a, want)
}

// An intent is looked for on the first M + 1 disks that work, and only there.
func TestOpenOfCopies(t *testing.T) { // P16.4, P15.3
	for _, c := range layouts {
		i := intent.Intent{Seq: 4, Stripe: 1, Text: "new"}
		for set := range 1 << (c.K + c.M) {
			a, v := made(t, c)
			ok(t, "Write", v.Write(1, "old"))
			want := dump(a, conf.Sectors(c))
			for d := range c.K + c.M {
				if set&(1<<d) != 0 {
					want[d][1+i.Seq%c.Slots] = recordOf(t, c, d, i)
				}
			}
			lay(t, a, want)
			v, text, seq := opened(t, a), "old", 1
			if set&(1<<(c.M+1)-1) != 0 {
				want.setShards(t, c, 1, 5, "new")
				text, seq = "new", 5
			}
			hasFlushed(t, "opened", a, want)
			reads(t, "opened", v, "", text)
			if v.Seq() != seq {
				t.Errorf("%v, copies %b: Seq is %d", c, set, v.Seq())
			}
		}
	}
}

// Of intents that differ in their texts alone the first disk's is taken.
func TestOpenOfCopiesThatDiffer(t *testing.T) { // P16.4, P15.1
	a, _ := made(t, layout)
	for d, text := range []string{"first", "second"} {
		ok(t, "Corrupt", a.Corrupt(d, 2, recordOf(t, layout, d, intent.Intent{Seq: 1, Stripe: 0, Text: text})))
	}
	b := a.Copy()
	reads(t, "opened", opened(t, a), "first", "", "")
	ok(t, "Fail", b.Fail(0))
	reads(t, "opened", opened(t, b), "second", "", "")
}

// Several stripes' intents are written again, by stripe, and flushed at the end alone.
func TestOpenOfSeveralStripes(t *testing.T) { // P16.4
	c := api.Conf{K: 2, M: 1, Shard: 8, Stripes: 4, Slots: 4}
	a, _ := made(t, c)
	want := asMade(t, c)
	texts := []string{"zero", "", "two", "three"}
	for seq, n := range []int{3, 0, 3, 2} {
		text := texts[n]
		if seq == 0 {
			text = "older"
		}
		want.setRecords(t, c, intent.Intent{Seq: seq, Stripe: n, Text: text})
	}
	lay(t, a, want)
	behind := want.clone()
	for n, epoch := range []int{2, 0, 4, 3} {
		behind.setShards(t, c, n, epoch, texts[n])
	}
	for fuse := range 10 {
		x := a.Copy()
		ok(t, "Fuse", x.Fuse(fuse))
		v, err := volume.Open(x, id)
		if fuse == 9 {
			ok(t, "Open", err)
			hasFlushed(t, "opened", x, behind)
			reads(t, "opened", v, texts...)
			healthy(t, "opened", v, 3)
			continue
		}
		if v != nil || err != api.ErrPower {
			t.Errorf("fuse %d: %d", fuse, err)
		}
		ok(t, "Crash", x.Crash(nil))
		has(t, "nothing is kept", x, want)
		reads(t, "opened again", opened(t, x), texts...)
	}
	// The first three writes are those of stripe 0, the next three those of stripe 2.
	for n, sector := range []int{5, 7, 8} {
		x := a.Copy()
		ok(t, "Fuse", x.Fuse(3*n+3))
		volume.Open(x, id)
		ok(t, "Crash", x.Crash(bitsOf(-1, 9)))
		for d := range 3 {
			if s, _ := x.Read(d, sector); s != behind[d][sector] {
				t.Errorf("%d writes: disk %d has not yet its sector %d", 3*n+3, d, sector)
			}
		}
	}
}

// What waited ahead of Open is flushed, also where nothing is written again.
func TestOpenFlushes(t *testing.T) { // P16.4
	a, _ := made(t, layout)
	ok(t, "Write", a.Write(2, 1, "waits"))
	opened(t, a)
	ok(t, "Crash", a.Crash(nil))
	if s, err := a.Read(2, 1); s != "waits" || err != api.OK {
		t.Errorf("what waited: %q, %d", s, err)
	}
}

func TestSeqBehindOpen(t *testing.T) { // P16.4
	for _, x := range []struct {
		epochs [3]int
		seq    int
		want   int
	}{
		{[3]int{0, 0, 0}, -1, 0},
		{[3]int{0, 0, 9}, -1, 9},
		{[3]int{9, 3, 0}, 4, 9},
		{[3]int{5, 5, 5}, 4, 5},
		{[3]int{0, 5, 6}, 9, 10},
		{[3]int{0, maxEpoch - 1, 0}, 9, maxEpoch - 1},
		{[3]int{0, 0, maxEpoch}, -1, maxEpoch},
	} {
		a, _ := made(t, layout)
		for n, epoch := range x.epochs {
			ok(t, "Corrupt", a.Corrupt(n, 3+n, shardOf(t, layout, n, n, epoch, "")))
		}
		if x.seq >= 0 {
			ok(t, "Corrupt", a.Corrupt(1, 1+x.seq%2, recordOf(t, layout, 1, intent.Intent{Seq: x.seq, Stripe: 2})))
		}
		v := opened(t, a)
		if v.Seq() != x.want {
			t.Errorf("epochs %v, Seq %d: %d, not %d", x.epochs, x.seq, v.Seq(), x.want)
		}
		if x.want < maxEpoch {
			ok(t, "Write", v.Write(0, "next"))
			reads(t, "next", v, "next")
			if v.Seq() != x.want+1 {
				t.Errorf("epochs %v, Seq %d: behind a Write %d", x.epochs, x.seq, v.Seq())
			}
			continue
		}
		// There is no room for a later Epoch: nothing is written.
		before := dump(a, 6)
		if err := v.Write(0, "next"); err != api.ErrBig || v.Seq() != x.want {
			t.Errorf("epochs %v, Seq %d: Write: %d, and Seq is %d", x.epochs, x.seq, err, v.Seq())
		}
		hasFlushed(t, "nothing is written", a, before)
	}
}

// Intents that Write never makes, though they are own ones: an error, and no panic.
func TestOpenOfIntentsThatCanNotBe(t *testing.T) { // R1, R3
	for what, i := range map[string]intent.Intent{
		"a text that is too long":        {Seq: 3, Stripe: 0, Text: fill(conf.Capacity(layout) + 1)},
		"a Seq whose Epoch is too great": {Seq: maxEpoch, Stripe: 0, Text: "a"},
	} {
		a, _ := made(t, layout)
		ok(t, "Corrupt", a.Corrupt(0, 1+i.Seq%2, recordOf(t, layout, 0, i)))
		before := dump(a, 6)
		if v, err := volume.Open(a, id); v != nil || err != api.ErrBig {
			t.Errorf("%s: %d", what, err)
		}
		hasFlushed(t, what, a, before)
		// One of a stripe that is later is passed over.
		if what == "a text that is too long" {
			ok(t, "Corrupt", a.Corrupt(2, 3, shardOf(t, layout, 2, 0, 9, "")))
			reads(t, what, opened(t, a), "", "", "")
		}
	}
}

// A head, on disks that have fewer sectors than it tells.
func TestOpenOfFewSectors(t *testing.T) { // R1
	for _, sectors := range []int{1, 2, 3, 4, 5} {
		a, err := array.New(3, sectors, 60)
		ok(t, "array.New", err)
		ok(t, "Corrupt", a.Corrupt(1, 0, headOf(t, layout, 1)))
		v := opened(t, a)
		for n := range layout.Stripes {
			if s, err := v.Read(n); s != "" || err != api.ErrLost {
				t.Errorf("%d sectors: Read(%d): %q, %d", sectors, n, s, err)
			}
		}
		if err := v.Write(2, "a"); err != api.ErrArg {
			t.Errorf("%d sectors: Write: %d", sectors, err)
		}
		want := api.ErrArg
		if sectors > 3 {
			want = api.OK
		}
		if err := v.Write(0, fill(12)); err != want {
			t.Errorf("%d sectors: Write: %d", sectors, err)
		}
	}
}

// crashed is what is left of a Write of "new" to stripe 0 that was cut.
type crashed struct {
	c     api.Conf
	texts []string
	err   api.Errno
}

// whole holds an array that is opened against what may be behind the crash.
// The stripe's text is told, too: it is the same from then on.
func (x crashed) whole(t *testing.T, what string, a *array.Array) string {
	t.Helper()
	v := opened(t, a)
	s, err := v.Read(0)
	if err != api.OK || s != "new" && (s != x.texts[0] || x.err == api.OK) {
		t.Errorf("%v, %s: %q, %d", x.c, what, s, err)
	}
	reads(t, what, v, append([]string{s}, x.texts[1:]...)...)
	return s
}

// again opens it with each fuse, crashes, and opens it again; what the crash
// keeps is all, nothing, or some.
func (x crashed) again(t *testing.T, what string, a *array.Array) {
	t.Helper()
	for fuse := 0; ; fuse++ {
		b := a.Copy()
		ok(t, "Fuse", b.Fuse(fuse))
		v, err := volume.Open(b, id)
		if err == api.OK {
			ok(t, "Crash", b.Crash(nil))
			s := x.whole(t, what+", opened", b)
			// It goes on from there.
			w := opened(t, b)
			ok(t, "Write", w.Write(1, "on"))
			reads(t, what+", written", opened(t, b), append([]string{s, "on"}, x.texts[2:]...)...)
			return
		}
		if v != nil || err != api.ErrPower {
			t.Errorf("%v, %s: Open, fuse %d: %d", x.c, what, fuse, err)
			return
		}
		for keep := range 1 << min(fuse, 4) {
			d := b.Copy()
			ok(t, "Crash", d.Crash(bitsOf(keep*0x11, fuse)))
			s := x.whole(t, what+", opened again", d)
			if r := x.whole(t, what+", opened a third time", d); r != s {
				t.Errorf("%v, %s: %q behind %q", x.c, what, r, s)
			}
		}
	}
}

// A crash at each write, each that waited being kept or not, with each set of
// disks that failed ahead of it, and then each disk more that may be bad.
func TestCrash(t *testing.T) { // P16.5
	for _, c := range layouts {
		for set := range 1 << (c.K + c.M) {
			if bits.OnesCount(uint(set)) > c.M {
				continue
			}
			crashAtEach(t, c, set)
		}
	}
}

func crashAtEach(t *testing.T, c api.Conf, set int) {
	t.Helper()
	a, v := made(t, c)
	texts := []string{"old", "other", "third"}[:c.Stripes]
	for n, s := range texts {
		ok(t, "Write", v.Write(n, "first"))
		ok(t, "Write", v.Write(n, s))
	}
	failSet(t, a, set)
	disks := c.K + c.M - bits.OnesCount(uint(set))
	journal := c.M + 1 - bits.OnesCount(uint(set&(1<<(c.M+1)-1)))
	for fuse := range journal + disks + 1 {
		b := a.Copy()
		v := opened(t, b)
		ok(t, "Fuse", b.Fuse(fuse))
		err := v.Write(0, "new")
		if (err == api.OK) != (fuse == journal+disks) || err != api.OK && err != api.ErrPower {
			t.Errorf("%v, failed %b, fuse %d: %d", c, set, fuse, err)
		}
		x := crashed{c, texts, err}
		waits := fuse
		if fuse >= journal {
			waits = fuse - journal
		}
		for keep := range 1 << waits {
			d := b.Copy()
			ok(t, "Crash", d.Crash(bitsOf(keep, waits)))
			x.again(t, "crash", d)
			if s := x.whole(t, "crash", d.Copy()); fuse >= journal && s != "new" {
				t.Errorf("%v, failed %b, fuse %d: an intent that was flushed is lost", c, set, fuse)
			}
			if bits.OnesCount(uint(set)) == c.M {
				continue
			}
			for bad := range c.K + c.M {
				if set&(1<<bad) != 0 {
					continue
				}
				e := d.Copy()
				ok(t, "Fail", e.Fail(bad))
				x.again(t, "crash, and a disk fails", e)
				ok(t, "Replace", e.Replace(bad))
				x.again(t, "crash, and a disk is blank", e)
			}
		}
	}
}
