package disk_test

import (
	"math"
	"slices"
	"strconv"
	"strings"
	"testing"

	"sheetpile/api"
	"sheetpile/disk"
)

func made(t *testing.T, sectors, size int) *disk.Disk {
	t.Helper()
	d, err := disk.New(sectors, size)
	if d == nil || err != api.OK {
		t.Fatalf("New(%d, %d): %d", sectors, size, err)
	}
	return d
}

// is holds a disk that works, and all that is read of it, against want.
func is(t *testing.T, d *disk.Disk, pending int, want ...string) {
	t.Helper()
	if !d.Alive() || d.Pending() != pending {
		t.Errorf("works: %v, and %d wait instead of %d", d.Alive(), d.Pending(), pending)
	}
	for n, w := range want {
		if s, err := d.Read(n); s != w || err != api.OK {
			t.Errorf("sector %d: %q, %d instead of %q", n, s, err, w)
		}
	}
	if s, err := d.Read(len(want)); s != "" || err != api.ErrArg {
		t.Errorf("the sector behind the last one: %q, %d", s, err)
	}
}

// isGone holds a disk against what one tells that does not work.
func isGone(t *testing.T, d *disk.Disk) {
	t.Helper()
	if d.Alive() || d.Pending() != 0 {
		t.Errorf("works: %v, and %d wait", d.Alive(), d.Pending())
	}
	for _, n := range []int{0, 1, -1, 9999, math.MaxInt, math.MinInt} {
		for _, s := range []string{"", "a", strings.Repeat("b", 5000)} {
			if err := d.Write(n, s); err != api.ErrGone {
				t.Errorf("Write(%d, %.9q): %d", n, s, err)
			}
			if err := d.Corrupt(n, s); err != api.ErrGone {
				t.Errorf("Corrupt(%d, %.9q): %d", n, s, err)
			}
		}
		if s, err := d.Read(n); s != "" || err != api.ErrGone {
			t.Errorf("Read(%d): %q, %d", n, s, err)
		}
	}
	if err := d.Flush(); err != api.ErrGone {
		t.Errorf("Flush: %d", err)
	}
	for _, keep := range [][]bool{nil, {}, {true}, {false, true, true}} {
		if err := d.Crash(keep); err != api.ErrGone {
			t.Errorf("Crash(%v): %d", keep, err)
		}
	}
	if d.Alive() || d.Pending() != 0 {
		t.Errorf("behind that: works: %v, and %d wait", d.Alive(), d.Pending())
	}
}

func ok(t *testing.T, what string, err api.Errno) {
	t.Helper()
	if err != api.OK {
		t.Errorf("%s: %d", what, err)
	}
}

// noNumbers are numbers that are neither those of sectors nor, beside 1 to
// 4096, how many there are, or of what size.
func noNumbers() []int {
	return []int{-1, -2, -4096, 4097, 4098, 8192, 65536, 1 << 32, 1<<32 + 1, math.MaxInt, math.MinInt, math.MinInt + 1}
}

func TestNew(t *testing.T) { // P9.1
	for _, sectors := range []int{1, 2, 3, 255, 4095, 4096} {
		for _, size := range []int{1, 2, 26, 4095, 4096} {
			is(t, made(t, sectors, size), 0, make([]string, sectors)...)
		}
	}
}

func TestNewWrong(t *testing.T) { // P9.1, R3
	for _, no := range append(noNumbers(), 0) {
		for _, other := range []int{1, 2, 4096, 0, -1, 4097, math.MaxInt} {
			for _, c := range [][2]int{{no, other}, {other, no}} {
				if d, err := disk.New(c[0], c[1]); d != nil || err != api.ErrArg {
					t.Errorf("New(%d, %d): %v, %d", c[0], c[1], d, err)
				}
			}
		}
	}
}

func TestNil(t *testing.T) { // P9.1, R1
	var d *disk.Disk
	for _, n := range []int{0, 1, -1, math.MaxInt} {
		if s, err := d.Read(n); s != "" || err != api.ErrArg {
			t.Errorf("Read(%d): %q, %d", n, s, err)
		}
		for _, s := range []string{"", "a", strings.Repeat("b", 5000)} {
			if d.Write(n, s) != api.ErrArg || d.Corrupt(n, s) != api.ErrArg {
				t.Errorf("of a write, or of damage, to %d", n)
			}
		}
	}
	if d.Flush() != api.ErrArg || d.Crash(nil) != api.ErrArg || d.Crash([]bool{true}) != api.ErrArg || d.Fail() != api.ErrArg || d.Replace() != api.ErrArg {
		t.Error("an error is another one than ErrArg")
	}
	if d.Pending() != 0 || d.Alive() || d.Copy() != nil {
		t.Error("something is told of what is none")
	}
}

func TestOneThatNewDidNotMake(t *testing.T) { // R1
	d := new(disk.Disk)
	isGone(t, d)
	isGone(t, d.Copy())
	ok(t, "Fail", d.Fail())
	ok(t, "Replace", d.Replace())
	is(t, d, 0)
	if d.Write(0, "") != api.ErrArg || d.Corrupt(0, "") != api.ErrArg {
		t.Error("a sector was written where there is none")
	}
}

func TestWriteAndRead(t *testing.T) { // P9.2
	d := made(t, 4, 3)
	ok(t, "Write", d.Write(1, "a"))
	is(t, d, 1, "", "a", "", "")
	ok(t, "Write", d.Write(3, "\x00\xFF%"))
	ok(t, "Write", d.Write(0, "bcd"))
	is(t, d, 3, "bcd", "a", "", "\x00\xFF%")
	ok(t, "Flush", d.Flush())
	is(t, d, 0, "bcd", "a", "", "\x00\xFF%")
	ok(t, "Write of nothing", d.Write(0, ""))
	is(t, d, 1, "", "a", "", "\x00\xFF%")
	ok(t, "Flush", d.Flush())
	ok(t, "Flush of nothing", d.Flush())
	is(t, d, 0, "", "a", "", "\x00\xFF%")
}

func TestSeveralWritesToOneSector(t *testing.T) { // P9.2
	d := made(t, 2, 2)
	for i, s := range []string{"a", "b", "b", "", "c"} {
		ok(t, "Write", d.Write(1, s))
		is(t, d, i+1, "", s)
	}
	ok(t, "Write", d.Write(0, "d"))
	is(t, d, 6, "d", "c")
	ok(t, "Flush", d.Flush())
	is(t, d, 0, "d", "c")
}

func TestNoSector(t *testing.T) { // P9.2, P9.3, R2, R3
	for _, sectors := range []int{1, 3, 4096} {
		d := made(t, sectors, 2)
		want := make([]string, sectors)
		want[sectors-1] = "zz"
		ok(t, "Write to the last one", d.Write(sectors-1, "zz"))
		is(t, d, 1, want...)
		for _, n := range append(noNumbers(), sectors, sectors+1, -sectors) {
			if s, err := d.Read(n); s != "" || err != api.ErrArg {
				t.Errorf("Read(%d): %q, %d", n, s, err)
			}
			for _, s := range []string{"", "ab", "abc"} {
				if err := d.Write(n, s); err != api.ErrArg {
					t.Errorf("Write(%d, %q): %d", n, s, err)
				}
				if err := d.Corrupt(n, s); err != api.ErrArg {
					t.Errorf("Corrupt(%d, %q): %d", n, s, err)
				}
			}
		}
		is(t, d, 1, want...)
	}
}

func TestTextsOfJustSizeAndOfMore(t *testing.T) { // P9.2, P9.3
	for _, size := range []int{1, 2, 512, 4095, 4096} {
		d := made(t, 2, size)
		full := strings.Repeat("x", size)
		ok(t, "Write of just size", d.Write(0, full))
		ok(t, "Corrupt of just size", d.Corrupt(1, full))
		for _, more := range []int{1, 2, 4096} {
			s := strings.Repeat("y", size+more)
			for n := range 2 {
				if err := d.Write(n, s); err != api.ErrBig {
					t.Errorf("Write(%d) of %d bytes to %d: %d", n, len(s), size, err)
				}
				if err := d.Corrupt(n, s); err != api.ErrBig {
					t.Errorf("Corrupt(%d) of %d bytes to %d: %d", n, len(s), size, err)
				}
			}
		}
		is(t, d, 1, full, full)
	}
}

func TestSizeIsInBytes(t *testing.T) { // P9.2
	d := made(t, 1, 3)
	ok(t, "Write of one rune of three bytes", d.Write(0, "€"))
	if err := d.Write(0, "éé"); err != api.ErrBig {
		t.Errorf("Write of two runes of four bytes: %d", err)
	}
	is(t, d, 1, "€")
}

func TestCrash(t *testing.T) { // P9.3, the chapter's example first
	d := made(t, 1, 1)
	ok(t, "Write", d.Write(0, "a"))
	ok(t, "Crash", d.Crash(nil))
	is(t, d, 0, "")
	for i, c := range []struct {
		keep []bool
		want [3]string
	}{
		{nil, [3]string{"o", "p", "q"}},
		{[]bool{}, [3]string{"o", "p", "q"}},
		{[]bool{false}, [3]string{"o", "p", "q"}},
		{[]bool{true}, [3]string{"a", "p", "q"}},
		{[]bool{false, true}, [3]string{"o", "b", "q"}},
		{[]bool{true, true, false}, [3]string{"a", "b", "q"}},
		{[]bool{false, false, true}, [3]string{"c", "p", "q"}},
		{[]bool{true, false, true}, [3]string{"c", "p", "q"}},
		{[]bool{true, true, true}, [3]string{"c", "b", "q"}},
		{[]bool{true, false, false, true, true}, [3]string{"a", "p", "q"}},
		{[]bool{false, false, false, true}, [3]string{"o", "p", "q"}},
		{slices.Repeat([]bool{true}, 99), [3]string{"c", "b", "q"}},
	} {
		d := made(t, 3, 1)
		for n, s := range []string{"o", "p", "q"} {
			ok(t, "Write", d.Write(n, s))
		}
		ok(t, "Flush", d.Flush())
		ok(t, "Write", d.Write(0, "a"))
		ok(t, "Write", d.Write(1, "b"))
		ok(t, "Write", d.Write(0, "c"))
		was := slices.Clone(c.keep)
		if err := d.Crash(c.keep); err != api.OK || !slices.Equal(c.keep, was) {
			t.Errorf("case %d: %d, %v", i, err, c.keep)
		}
		is(t, d, 0, c.want[:]...)
		ok(t, "Crash of one on which nothing waits", d.Crash([]bool{true, true, true}))
		ok(t, "Flush", d.Flush())
		is(t, d, 0, c.want[:]...)
	}
}

func TestCrashOfAllThatMayBeKept(t *testing.T) { // P9.3, P9.5
	sectors := []int{0, 1, 0, 2, 1, 0}
	for places := range len(sectors) + 3 {
		for kept := range 1 << places {
			d := made(t, 3, 2)
			want := []string{"x", "y", "z"}
			for n, s := range want {
				ok(t, "Write", d.Write(n, s))
			}
			ok(t, "Flush", d.Flush())
			keep := make([]bool, places)
			for i := range keep {
				keep[i] = kept>>i&1 == 1
			}
			for i, n := range sectors {
				ok(t, "Write", d.Write(n, strconv.Itoa(i)))
				if i < places && keep[i] {
					want[n] = strconv.Itoa(i)
				}
			}
			ok(t, "Crash", d.Crash(keep))
			is(t, d, 0, want...)
		}
	}
}

func TestCorrupt(t *testing.T) { // P9.3
	d := made(t, 3, 2)
	ok(t, "Write", d.Write(2, "f"))
	ok(t, "Flush", d.Flush())
	for _, n := range []int{0, 1, 0, 1} {
		ok(t, "Write", d.Write(n, "w"+strconv.Itoa(d.Pending())))
	}
	ok(t, "Corrupt of a sector that none waits for", d.Corrupt(2, "!"))
	is(t, d, 4, "w2", "w3", "!")
	ok(t, "Corrupt of a sector that writes wait for", d.Corrupt(0, "??"))
	is(t, d, 2, "??", "w3", "!")
	c := d.Copy()
	ok(t, "Crash", c.Crash(nil))
	is(t, c, 0, "??", "", "!")
	c = d.Copy()
	ok(t, "Crash", c.Crash([]bool{true, false, true, true}))
	is(t, c, 0, "??", "w1", "!")
	c = d.Copy()
	ok(t, "Flush", c.Flush())
	is(t, c, 0, "??", "w3", "!")
	ok(t, "Write behind it", d.Write(0, "v"))
	is(t, d, 3, "v", "w3", "!")
	ok(t, "Corrupt by nothing", d.Corrupt(0, ""))
	ok(t, "Corrupt by nothing", d.Corrupt(1, ""))
	is(t, d, 0, "", "", "!")
}

func TestGone(t *testing.T) { // P9.2, P9.4, R2
	d := made(t, 3, 2)
	ok(t, "Write", d.Write(0, "a"))
	ok(t, "Flush", d.Flush())
	ok(t, "Write", d.Write(0, "b"))
	ok(t, "Write", d.Write(1, "c"))
	for range 3 {
		ok(t, "Fail", d.Fail())
		isGone(t, d)
		isGone(t, d.Copy())
	}
	c := d.Copy()
	ok(t, "Replace", d.Replace())
	is(t, d, 0, "", "", "")
	isGone(t, c)
	ok(t, "Replace of a copy", c.Replace())
	is(t, c, 0, "", "", "")
	ok(t, "Write of just size", c.Write(2, "ab"))
	if err := c.Write(2, "abc"); err != api.ErrBig {
		t.Errorf("Write of one byte more: %d", err)
	}
	ok(t, "Crash", d.Crash([]bool{true, true}))
	is(t, d, 0, "", "", "")
}

func TestReplaceOfOneThatWorks(t *testing.T) { // P9.4
	d := made(t, 2, 3)
	ok(t, "Write", d.Write(0, "abc"))
	ok(t, "Flush", d.Flush())
	ok(t, "Write", d.Write(0, "d"))
	ok(t, "Write", d.Write(1, "e"))
	ok(t, "Replace", d.Replace())
	is(t, d, 0, "", "")
	ok(t, "Crash", d.Crash([]bool{true, true}))
	ok(t, "Flush", d.Flush())
	is(t, d, 0, "", "")
	ok(t, "Write of just size", d.Write(1, "fgh"))
	if err := d.Write(1, "fghi"); err != api.ErrBig {
		t.Errorf("Write of one byte more: %d", err)
	}
	is(t, d, 1, "", "fgh")
}

func TestCopyIsOfItsOwn(t *testing.T) { // P9.4, R5
	for i, change := range []func(*disk.Disk) api.Errno{
		func(d *disk.Disk) api.Errno { return d.Write(0, "!") },
		func(d *disk.Disk) api.Errno { return d.Write(1, "!") },
		func(d *disk.Disk) api.Errno { return d.Corrupt(0, "!") },
		func(d *disk.Disk) api.Errno { return d.Corrupt(1, "!") },
		func(d *disk.Disk) api.Errno { return d.Crash(nil) },
		func(d *disk.Disk) api.Errno { return d.Crash([]bool{false, true}) },
		(*disk.Disk).Flush, (*disk.Disk).Fail, (*disk.Disk).Replace,
	} {
		for _, swap := range []bool{false, true} {
			d := made(t, 3, 1)
			ok(t, "Write", d.Write(0, "a"))
			ok(t, "Flush", d.Flush())
			for _, n := range []int{0, 1, 2} { // an append may leave room behind these
				ok(t, "Write", d.Write(n, strconv.Itoa(n)))
			}
			changed, other := d, d.Copy()
			if swap {
				changed, other = other, changed
			}
			is(t, changed, 3, "0", "1", "2")
			ok(t, "change "+strconv.Itoa(i), change(changed))
			is(t, other, 3, "0", "1", "2")
			ok(t, "Write", other.Write(2, "z"))
			ok(t, "Write", changedAgain(changed).Write(2, "y"))
			is(t, other, 4, "0", "1", "z")
			ok(t, "Crash", other.Crash([]bool{false, true, false, true}))
			is(t, other, 0, "a", "1", "z")
		}
	}
}

// changedAgain is the same disk, that works at any rate.
func changedAgain(d *disk.Disk) *disk.Disk {
	if !d.Alive() {
		d.Replace()
	}
	return d
}

func TestKeepIsNotKept(t *testing.T) { // R5
	d := made(t, 1, 1)
	keep := []bool{true}
	ok(t, "Write", d.Write(0, "a"))
	ok(t, "Crash", d.Crash(keep))
	keep[0] = false
	is(t, d, 0, "a")
}

// plain is a disk by the chapter's words: it is read by doing all that waits.
type plain struct {
	works   bool
	size    int
	flushed []string
	waits   []waits
}

type waits struct {
	n int
	s string
}

func (p *plain) now() []string {
	now := slices.Clone(p.flushed)
	for _, w := range p.waits {
		now[w.n] = w.s
	}
	return now
}

func (p *plain) err(n int, s string) api.Errno {
	switch {
	case !p.works:
		return api.ErrGone
	case n < 0 || n >= len(p.flushed):
		return api.ErrArg
	case len(s) > p.size:
		return api.ErrBig
	}
	return api.OK
}

func (p *plain) write(n int, s string) api.Errno {
	err := p.err(n, s)
	if err == api.OK {
		p.waits = append(p.waits, waits{n, s})
	}
	return err
}

func (p *plain) corrupt(n int, s string) api.Errno {
	err := p.err(n, s)
	if err == api.OK {
		p.flushed[n] = s
		p.waits = slices.DeleteFunc(p.waits, func(w waits) bool { return w.n == n })
	}
	return err
}

func (p *plain) crash(keep []bool) api.Errno {
	if !p.works {
		return api.ErrGone
	}
	for i, w := range p.waits {
		if i < len(keep) && keep[i] {
			p.flushed[w.n] = w.s
		}
	}
	p.waits = nil
	return api.OK
}

func (p *plain) blank(works bool) api.Errno {
	p.works, p.flushed, p.waits = works, make([]string, len(p.flushed)), nil
	return api.OK
}

func (p *plain) copy() *plain {
	return &plain{p.works, p.size, slices.Clone(p.flushed), slices.Clone(p.waits)}
}

// holds says the same to both, as dice fall, and compares their errors.
func holds(t *testing.T, d *disk.Disk, p *plain, dice func(int) int) {
	t.Helper()
	n := dice(len(p.flushed)+2) - 1
	s := strings.Repeat(string(rune('a'+dice(26))), dice(p.size+2))
	keep := make([]bool, dice(len(p.waits)+3))
	for i := range keep {
		keep[i] = dice(2) == 1
	}
	var got, want api.Errno
	switch dice(40) {
	case 0:
		got, want = d.Fail(), p.blank(false)
	case 1, 2:
		got, want = d.Replace(), p.blank(true)
	case 3, 4, 5:
		got, want = d.Corrupt(n, s), p.corrupt(n, s)
	case 6, 7, 8:
		got, want = d.Crash(keep), p.crash(keep)
	case 9, 10:
		got, want = d.Flush(), p.crash(slices.Repeat([]bool{true}, len(p.waits)))
	default:
		got, want = d.Write(n, s), p.write(n, s)
	}
	if got != want {
		t.Fatalf("an error: %d instead of %d", got, want)
	}
}

func compare(t *testing.T, d *disk.Disk, p *plain) {
	t.Helper()
	if p.works {
		is(t, d, len(p.waits), p.now()...)
	} else {
		isGone(t, d)
	}
	if t.Failed() {
		t.FailNow()
	}
}

func TestAsAPlainDisk(t *testing.T) { // P9.2 to P9.5, R3, R6
	x := uint64(9)
	dice := func(sides int) int {
		x = x*6364136223846793005 + 1442695040888963407
		return int(x>>33) % sides
	}
	for range 200 {
		sectors, size := 1+dice(6), 1+dice(5)
		d, p := made(t, sectors, size), &plain{works: true, size: size, flushed: make([]string, sectors)}
		e, q := d.Copy(), p.copy()
		for range 150 {
			holds(t, d, p, dice)
			holds(t, e, q, dice)
			if dice(30) == 0 {
				e, q = d.Copy(), p.copy()
			}
			compare(t, d, p)
			compare(t, e, q)
		}
	}
}
