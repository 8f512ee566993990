package array_test

import (
	"math"
	"slices"
	"strconv"
	"strings"
	"testing"

	"sheetpile/api"
	"sheetpile/array"
)

func made(t *testing.T, disks, sectors, size int) *array.Array {
	t.Helper()
	a, err := array.New(disks, sectors, size)
	if a == nil || err != api.OK {
		t.Fatalf("New(%d, %d, %d): %d", disks, sectors, size, err)
	}
	return a
}

func ok(t *testing.T, what string, err api.Errno) {
	t.Helper()
	if err != api.OK {
		t.Errorf("%s: %d", what, err)
	}
}

// is holds what is read against want, the sectors of one disk behind those of
// the other; a disk that does not work has none.
func is(t *testing.T, a *array.Array, want ...[]string) {
	t.Helper()
	if a.Disks() != len(want) || a.Down() {
		t.Errorf("%d disks, and the power is gone: %v", a.Disks(), a.Down())
	}
	for d, sectors := range want {
		if a.Alive(d) != (sectors != nil) {
			t.Errorf("disk %d works: %v", d, a.Alive(d))
		}
		if sectors == nil {
			if s, err := a.Read(d, 0); s != "" || err != api.ErrGone {
				t.Errorf("disk %d, sector 0: %q, %d", d, s, err)
			}
			continue
		}
		for n, w := range sectors {
			if s, err := a.Read(d, n); s != w || err != api.OK {
				t.Errorf("disk %d, sector %d: %q, %d instead of %q", d, n, s, err, w)
			}
		}
		if s, err := a.Read(d, len(sectors)); s != "" || err != api.ErrArg {
			t.Errorf("disk %d, the sector behind the last one: %q, %d", d, s, err)
		}
	}
}

// isDown holds an array against what one tells whose power is gone.
func isDown(t *testing.T, a *array.Array) {
	t.Helper()
	if !a.Down() {
		t.Error("the power is there")
	}
	for _, d := range []int{0, 1, 2, -1, 999, math.MaxInt, math.MinInt} {
		for _, n := range []int{0, 1, -1, 9999} {
			if s, err := a.Read(d, n); s != "" || err != api.ErrPower {
				t.Errorf("Read(%d, %d): %q, %d", d, n, s, err)
			}
			for _, s := range []string{"", "a", strings.Repeat("b", 5000)} {
				if err := a.Write(d, n, s); err != api.ErrPower {
					t.Errorf("Write(%d, %d, %.9q): %d", d, n, s, err)
				}
			}
		}
	}
	if err := a.Flush(); err != api.ErrPower || !a.Down() {
		t.Errorf("Flush: %d", err)
	}
}

// noDisks are numbers that no disk of so many has.
func noDisks(disks int) []int {
	return []int{-1, -2, -disks, disks, disks + 1, 255, 256, 1 << 32, 1<<32 + 1, math.MaxInt, math.MinInt}
}

func TestNew(t *testing.T) { // P10.1
	for _, c := range [][3]int{{1, 1, 1}, {2, 3, 4}, {254, 2, 2}, {255, 1, 4096}, {1, 4096, 4096}} {
		is(t, made(t, c[0], c[1], c[2]), slices.Repeat([][]string{make([]string, c[1])}, c[0])...)
	}
}

func TestNewWrong(t *testing.T) { // P10.1, R3
	for _, no := range []int{0, -1, -255, 256, 257, 1 << 32, 1<<32 + 1, math.MaxInt, math.MinInt} {
		for _, other := range []int{1, 4096, 0, -1, 4097} {
			if a, err := array.New(no, other, other); a != nil || err != api.ErrArg {
				t.Errorf("New(%d, %d, %d): %v, %d", no, other, other, a, err)
			}
		}
	}
	for _, no := range []int{0, -1, 4097, 1 << 32, math.MaxInt, math.MinInt} {
		for _, disks := range []int{1, 2, 255} {
			for _, c := range [][2]int{{no, 1}, {1, no}, {no, 4096}, {4096, no}, {no, no}} {
				if a, err := array.New(disks, c[0], c[1]); a != nil || err != api.ErrArg {
					t.Errorf("New(%d, %d, %d): %v, %d", disks, c[0], c[1], a, err)
				}
			}
		}
	}
}

func TestNil(t *testing.T) { // P10.1, R1
	var a *array.Array
	for _, d := range []int{0, 1, -1, 255, math.MaxInt} {
		if s, err := a.Read(d, 0); s != "" || err != api.ErrArg {
			t.Errorf("Read(%d, 0): %q, %d", d, s, err)
		}
		if a.Write(d, 0, "") != api.ErrArg || a.Corrupt(d, 0, "") != api.ErrArg || a.Fail(d) != api.ErrArg || a.Replace(d) != api.ErrArg || a.Fuse(d) != api.ErrArg {
			t.Errorf("an error of %d is another one than ErrArg", d)
		}
		if a.Alive(d) {
			t.Errorf("disk %d works", d)
		}
	}
	if a.Flush() != api.ErrArg || a.Crash(nil) != api.ErrArg || a.Crash([]bool{true}) != api.ErrArg {
		t.Error("an error is another one than ErrArg")
	}
	if a.Down() || a.Disks() != 0 || a.Copy() != nil {
		t.Error("something is told of what is none")
	}
}

func TestOneThatNewDidNotMake(t *testing.T) { // R1
	a := new(array.Array)
	is(t, a)
	is(t, a.Copy())
	ok(t, "Fuse", a.Fuse(0))
	if a.Write(0, 0, "") != api.ErrArg || a.Down() || a.Fail(0) != api.ErrArg || a.Flush() != api.OK || a.Crash([]bool{true}) != api.OK {
		t.Error("something is told of disks that are none")
	}
}

func TestWriteAndRead(t *testing.T) { // P10.2
	a := made(t, 3, 2, 2)
	ok(t, "Write", a.Write(0, 0, "a"))
	ok(t, "Write", a.Write(2, 1, "bc"))
	ok(t, "Write", a.Write(2, 1, "de"))
	is(t, a, []string{"a", ""}, []string{"", ""}, []string{"", "de"})
	ok(t, "Flush", a.Flush())
	ok(t, "Write", a.Write(1, 0, "f"))
	is(t, a, []string{"a", ""}, []string{"f", ""}, []string{"", "de"})
	ok(t, "Crash", a.Crash(nil))
	is(t, a, []string{"a", ""}, []string{"", ""}, []string{"", "de"})
}

func TestTheFirstAndTheLastOf255(t *testing.T) { // P10.1, P10.2
	a := made(t, 255, 1, 3)
	for d := range 255 {
		ok(t, "Write", a.Write(d, 0, strconv.Itoa(d)))
	}
	for _, d := range []int{0, 1, 127, 128, 253, 254} {
		if s, err := a.Read(d, 0); s != strconv.Itoa(d) || err != api.OK || !a.Alive(d) {
			t.Errorf("disk %d: %q, %d", d, s, err)
		}
	}
	if a.Alive(255) || a.Write(255, 0, "") != api.ErrArg {
		t.Error("there is a disk 255")
	}
	ok(t, "Crash", a.Crash(append(make([]bool, 254), true)))
	for _, d := range []int{0, 253} {
		if s, err := a.Read(d, 0); s != "" || err != api.OK {
			t.Errorf("disk %d: %q, %d", d, s, err)
		}
	}
	if s, err := a.Read(254, 0); s != "254" || err != api.OK {
		t.Errorf("disk 254: %q, %d", s, err)
	}
}

func TestNoDisk(t *testing.T) { // P10.2, P10.3, R2, R3
	for _, disks := range []int{1, 3} {
		a := made(t, disks, 1, 1)
		ok(t, "Fuse", a.Fuse(0))
		for _, d := range noDisks(disks) {
			if s, err := a.Read(d, 0); s != "" || err != api.ErrArg {
				t.Errorf("Read(%d, 0): %q, %d", d, s, err)
			}
			for _, n := range []int{0, -1, 9} {
				for _, s := range []string{"", "a", "ab"} {
					if a.Write(d, n, s) != api.ErrArg || a.Corrupt(d, n, s) != api.ErrArg {
						t.Errorf("a write, or damage, to %d, %d by %q", d, n, s)
					}
				}
			}
			if a.Fail(d) != api.ErrArg || a.Replace(d) != api.ErrArg || a.Alive(d) {
				t.Errorf("there is a disk %d", d)
			}
		}
		is(t, a, slices.Repeat([][]string{{""}}, disks)...)
	}
}

func TestTheDisksErrors(t *testing.T) { // P10.2, P10.3, R2, R3
	a := made(t, 2, 2, 3)
	ok(t, "Write", a.Write(0, 0, "abc"))
	ok(t, "Corrupt", a.Corrupt(0, 1, "def"))
	for i, c := range []struct {
		n   int
		s   string
		err api.Errno
	}{{2, "", api.ErrArg}, {-1, "", api.ErrArg}, {2, "abcd", api.ErrArg}, {math.MaxInt, "", api.ErrArg}, {0, "abcd", api.ErrBig}, {1, strings.Repeat("x", 5000), api.ErrBig}} {
		if err := a.Write(0, c.n, c.s); err != c.err {
			t.Errorf("case %d: Write: %d", i, err)
		}
		if err := a.Corrupt(0, c.n, c.s); err != c.err {
			t.Errorf("case %d: Corrupt: %d", i, err)
		}
	}
	is(t, a, []string{"abc", "def"}, []string{"", ""})
	ok(t, "Fail", a.Fail(1))
	for _, n := range []int{0, 2, -1} {
		for _, s := range []string{"", "abcd"} {
			if a.Write(1, n, s) != api.ErrGone || a.Corrupt(1, n, s) != api.ErrGone {
				t.Errorf("a write, or damage, to %d by %q of a disk that does not work", n, s)
			}
		}
		if s, err := a.Read(1, n); s != "" || err != api.ErrGone {
			t.Errorf("Read(1, %d): %q, %d", n, s, err)
		}
	}
	is(t, a, []string{"abc", "def"}, nil)
}

func TestFuse(t *testing.T) { // P10.2, the chapter's example among them
	for _, writes := range []int{0, 1, 2, 3, 17} {
		a := made(t, 3, 2, 2)
		ok(t, "Fuse", a.Fuse(writes))
		for i := range writes {
			ok(t, "Write", a.Write(i%3, 0, strconv.Itoa(i)))
			if s, err := a.Read(i%3, 0); s != strconv.Itoa(i) || err != api.OK || a.Down() {
				t.Errorf("write %d of %d: %q, %d", i, writes, s, err)
			}
		}
		ok(t, "Flush", a.Flush())
		if err := a.Write(0, 1, "no"); err != api.ErrPower {
			t.Errorf("the write behind %d: %d", writes, err)
		}
		isDown(t, a)
		ok(t, "Crash", a.Crash([]bool{true, true, true}))
		if s, err := a.Read(0, 1); s != "" || err != api.OK {
			t.Errorf("the write behind %d was done: %q, %d", writes, s, err)
		}
	}
}

func TestFuseWrong(t *testing.T) { // P10.2, R3
	a := made(t, 1, 1, 9)
	for _, no := range []int{-1, -2, -1 << 32, math.MinInt, math.MinInt + 1} {
		if err := a.Fuse(no); err != api.ErrArg {
			t.Errorf("Fuse(%d): %d", no, err)
		}
	}
	for i := range 9 {
		ok(t, "Write without a fuse", a.Write(0, 0, strconv.Itoa(i)))
	}
	ok(t, "Fuse", a.Fuse(1))
	if err := a.Fuse(-1); err != api.ErrArg {
		t.Errorf("Fuse(-1): %d", err)
	}
	ok(t, "Write", a.Write(0, 0, "a"))
	if err := a.Write(0, 0, "b"); err != api.ErrPower {
		t.Errorf("the fuse that was there is gone: %d", err)
	}
}

func TestFuseAnew(t *testing.T) { // P10.2
	a := made(t, 1, 1, 1)
	ok(t, "Fuse", a.Fuse(0))
	ok(t, "Fuse", a.Fuse(2))
	ok(t, "Write", a.Write(0, 0, "a"))
	ok(t, "Fuse", a.Fuse(1))
	ok(t, "Write", a.Write(0, 0, "b"))
	if err := a.Write(0, 0, "c"); err != api.ErrPower {
		t.Errorf("Write: %d", err)
	}
	ok(t, "Fuse while the power is gone", a.Fuse(9))
	isDown(t, a)
	if err := a.Fuse(-1); err != api.ErrArg {
		t.Errorf("Fuse(-1) while the power is gone: %d", err)
	}
	ok(t, "Crash", a.Crash(nil))
	ok(t, "Fuse of the most", a.Fuse(math.MaxInt))
	for range 100 {
		ok(t, "Write", a.Write(0, 0, "d"))
	}
	is(t, a, []string{"d"})
}

func TestFuseWhileWritesWait(t *testing.T) { // P10.2, P10.3
	a := made(t, 2, 2, 1)
	ok(t, "Write", a.Write(0, 0, "a"))
	ok(t, "Write", a.Write(1, 0, "b"))
	ok(t, "Fuse", a.Fuse(1))
	ok(t, "Write", a.Write(0, 1, "c"))
	is(t, a, []string{"a", "c"}, []string{"b", ""})
	if err := a.Write(1, 1, "d"); err != api.ErrPower {
		t.Errorf("Write: %d", err)
	}
	isDown(t, a)
	ok(t, "Crash", a.Crash([]bool{false, true, true, true}))
	is(t, a, []string{"", "c"}, []string{"b", ""})
}

func TestFuseIsNotSpentByWhatDoesNotWait(t *testing.T) { // P10.2, R3
	a := made(t, 2, 1, 2)
	ok(t, "Fail", a.Fail(1))
	for _, left := range []int{1, 0} {
		ok(t, "Fuse", a.Fuse(left))
		for i, c := range []struct {
			d, n int
			s    string
			err  api.Errno
		}{{2, 0, "", api.ErrArg}, {-1, 0, "", api.ErrArg}, {0, 1, "", api.ErrArg}, {0, -1, "", api.ErrArg}, {0, 0, "abc", api.ErrBig}, {1, 0, "", api.ErrGone}, {1, 5, "abc", api.ErrGone}} {
			if err := a.Write(c.d, c.n, c.s); err != c.err || a.Down() {
				t.Errorf("%d left, case %d: %d", left, i, err)
			}
		}
		ok(t, "Flush", a.Flush())
		ok(t, "Corrupt", a.Corrupt(0, 0, "x"))
		is(t, a, []string{"x"}, nil)
		if left == 1 {
			ok(t, "Write", a.Write(0, 0, "y"))
		}
		was, _ := a.Read(0, 0)
		if err := a.Write(0, 0, "z"); err != api.ErrPower || !a.Down() {
			t.Errorf("%d left: %d", left, err)
		}
		ok(t, "Crash", a.Crash([]bool{true, true}))
		is(t, a, []string{was}, nil)
	}
}

func TestAllCallsBehindThePowersGoing(t *testing.T) { // P10.2 to P10.4
	a := made(t, 3, 2, 2)
	ok(t, "Write", a.Write(0, 0, "a"))
	ok(t, "Flush", a.Flush())
	ok(t, "Write", a.Write(0, 0, "b"))
	ok(t, "Write", a.Write(1, 1, "c"))
	ok(t, "Write", a.Write(2, 0, "d"))
	ok(t, "Fuse", a.Fuse(0))
	if err := a.Write(0, 1, "e"); err != api.ErrPower {
		t.Errorf("Write: %d", err)
	}
	isDown(t, a)
	if a.Disks() != 3 || !a.Alive(0) || !a.Alive(2) || a.Alive(3) {
		t.Error("disks are others than there were")
	}
	if a.Corrupt(0, 2, "") != api.ErrArg || a.Corrupt(0, 0, "abc") != api.ErrBig || a.Corrupt(3, 0, "") != api.ErrArg || a.Fail(3) != api.ErrArg || a.Replace(-1) != api.ErrArg {
		t.Error("an error is another one")
	}
	ok(t, "Corrupt", a.Corrupt(2, 1, "!"))
	ok(t, "Fail", a.Fail(1))
	if a.Alive(1) {
		t.Error("disk 1 works")
	}
	ok(t, "Replace", a.Replace(1))
	isDown(t, a)
	ok(t, "Crash", a.Crash([]bool{false, true}))
	is(t, a, []string{"a", ""}, []string{"", ""}, []string{"d", "!"})
}

func TestCrashGivesThePowerBackAndTakesTheFuseAway(t *testing.T) { // P10.3
	for _, spent := range []int{0, 1, 2} { // of a fuse of one write: none, all, and the power is gone
		a := made(t, 1, 1, 1)
		ok(t, "Fuse", a.Fuse(1))
		for range spent {
			a.Write(0, 0, "a")
		}
		if a.Down() != (spent == 2) {
			t.Errorf("behind %d writes the power is gone: %v", spent, a.Down())
		}
		ok(t, "Crash", a.Crash(nil))
		is(t, a, []string{""})
		for i := range 9 {
			ok(t, "Write", a.Write(0, 0, strconv.Itoa(i)))
		}
		ok(t, "Flush", a.Flush())
		is(t, a, []string{"8"})
	}
}

func TestCrashCountsFromDisk0On(t *testing.T) { // P10.3
	for i, c := range []struct {
		keep []bool
		want [3][]string
	}{
		{nil, [3][]string{{"", ""}, {"", ""}, {"", ""}}},
		{[]bool{}, [3][]string{{"", ""}, {"", ""}, {"", ""}}},
		{[]bool{true}, [3][]string{{"c", ""}, {"", ""}, {"", ""}}},
		{[]bool{true, true}, [3][]string{{"c", "e"}, {"", ""}, {"", ""}}},
		{[]bool{false, true, true}, [3][]string{{"", "e"}, {"b", ""}, {"", ""}}},
		{[]bool{false, false, false, true}, [3][]string{{"", ""}, {"", ""}, {"a", ""}}},
		{[]bool{false, false, false, true, true}, [3][]string{{"", ""}, {"", ""}, {"d", ""}}},
		{[]bool{false, false, true, false, true, true, true}, [3][]string{{"", ""}, {"b", ""}, {"d", ""}}},
		{slices.Repeat([]bool{true}, 99), [3][]string{{"c", "e"}, {"b", ""}, {"d", ""}}},
	} {
		a := made(t, 3, 2, 1)
		for _, w := range []struct {
			d, n int
			s    string
		}{{2, 0, "a"}, {1, 0, "b"}, {0, 0, "c"}, {2, 0, "d"}, {0, 1, "e"}} {
			ok(t, "Write", a.Write(w.d, w.n, w.s))
		}
		was := slices.Clone(c.keep)
		if err := a.Crash(c.keep); err != api.OK || !slices.Equal(c.keep, was) {
			t.Errorf("case %d: %d, %v", i, err, c.keep)
		}
		is(t, a, c.want[:]...)
		ok(t, "Flush", a.Flush())
		ok(t, "Crash", a.Crash([]bool{true, true, true, true, true}))
		is(t, a, c.want[:]...)
	}
}

func TestCrashWithADiskThatDoesNotWork(t *testing.T) { // P10.3
	for broken := range 3 {
		a := made(t, 3, 1, 1)
		for d := range 3 {
			ok(t, "Write", a.Write(d, 0, "a"))
			ok(t, "Write", a.Write(d, 0, "b"))
		}
		ok(t, "Fail", a.Fail(broken))
		want := slices.Insert([][]string{{"a"}, {"b"}}, broken, nil)
		ok(t, "Crash", a.Crash([]bool{true, false, false, true}))
		is(t, a, want...)
		ok(t, "Replace", a.Replace(broken))
		want[broken] = []string{""}
		ok(t, "Crash", a.Crash([]bool{true, true, true}))
		is(t, a, want...)
	}
}

func TestFlushWithADiskThatDoesNotWork(t *testing.T) { // P10.2
	for broken := range 3 {
		a := made(t, 3, 1, 1)
		for d := range 3 {
			ok(t, "Write", a.Write(d, 0, "a"))
		}
		ok(t, "Fail", a.Fail(broken))
		ok(t, "Flush", a.Flush())
		ok(t, "Crash", a.Crash(nil))
		is(t, a, slices.Insert([][]string{{"a"}, {"a"}}, broken, nil)...)
	}
	a := made(t, 1, 1, 1)
	ok(t, "Fail", a.Fail(0))
	ok(t, "Flush of no disk that works", a.Flush())
	ok(t, "Crash of no disk that works", a.Crash([]bool{true}))
	is(t, a, nil)
}

func TestFailReplaceAndCorrupt(t *testing.T) { // P10.3
	a := made(t, 2, 2, 2)
	ok(t, "Write", a.Write(0, 0, "a"))
	ok(t, "Write", a.Write(1, 0, "b"))
	ok(t, "Flush", a.Flush())
	ok(t, "Write", a.Write(0, 1, "c"))
	ok(t, "Write", a.Write(0, 1, "d"))
	ok(t, "Write", a.Write(1, 1, "e"))
	ok(t, "Corrupt", a.Corrupt(0, 1, "!"))
	is(t, a, []string{"a", "!"}, []string{"b", "e"})
	ok(t, "Replace of one that works", a.Replace(0))
	is(t, a, []string{"", ""}, []string{"b", "e"})
	ok(t, "Fail", a.Fail(0))
	ok(t, "Fail again", a.Fail(0))
	is(t, a, nil, []string{"b", "e"})
	ok(t, "Replace", a.Replace(0))
	is(t, a, []string{"", ""}, []string{"b", "e"})
	ok(t, "Crash", a.Crash([]bool{true}))
	is(t, a, []string{"", ""}, []string{"b", "e"})
}

func TestCopyWithAFuse(t *testing.T) { // P10.1
	a := made(t, 2, 1, 1)
	ok(t, "Fuse", a.Fuse(1))
	ok(t, "Write", a.Copy().Write(0, 0, "a"))
	b := a.Copy()
	for _, each := range []*array.Array{a, b} {
		ok(t, "Write", each.Write(0, 0, "b"))
		is(t, each, []string{"b"}, []string{""})
	}
	c := a.Copy()
	if err := a.Write(1, 0, "c"); err != api.ErrPower {
		t.Errorf("Write: %d", err)
	}
	isDown(t, a)
	is(t, b, []string{"b"}, []string{""})
	is(t, c, []string{"b"}, []string{""})
	if err := c.Write(1, 0, "d"); err != api.ErrPower {
		t.Errorf("Write to a copy: %d", err)
	}
	isDown(t, c)
	ok(t, "Crash", b.Crash(nil))
	is(t, b, []string{""}, []string{""})
	isDown(t, a)
}

func TestCopyWithThePowerGone(t *testing.T) { // P10.1
	a := made(t, 2, 1, 1)
	ok(t, "Write", a.Write(1, 0, "a"))
	ok(t, "Fuse", a.Fuse(0))
	a.Write(0, 0, "b")
	c := a.Copy()
	isDown(t, c)
	ok(t, "Crash", c.Crash([]bool{true}))
	is(t, c, []string{""}, []string{"a"})
	isDown(t, a)
	ok(t, "Crash", a.Crash(nil))
	is(t, a, []string{""}, []string{""})
	is(t, c, []string{""}, []string{"a"})
	ok(t, "Write without a fuse", c.Write(0, 0, "c"))
}

func TestCopyIsOfItsOwn(t *testing.T) { // P10.1, R5
	for i, change := range []func(*array.Array) api.Errno{
		func(a *array.Array) api.Errno { return a.Write(0, 0, "!") },
		func(a *array.Array) api.Errno { return a.Corrupt(0, 0, "!") },
		func(a *array.Array) api.Errno { return a.Fail(0) },
		func(a *array.Array) api.Errno { return a.Replace(0) },
		func(a *array.Array) api.Errno { return a.Crash([]bool{true}) },
		func(a *array.Array) api.Errno { return a.Fuse(0) },
		(*array.Array).Flush,
	} {
		for _, swap := range []bool{false, true} {
			a := made(t, 3, 1, 1)
			ok(t, "Fail", a.Fail(2))
			ok(t, "Write", a.Write(0, 0, "a"))
			ok(t, "Write", a.Write(1, 0, "b"))
			changed, other := a, a.Copy()
			if swap {
				changed, other = other, changed
			}
			is(t, changed, []string{"a"}, []string{"b"}, nil)
			ok(t, "change "+strconv.Itoa(i), change(changed))
			is(t, other, []string{"a"}, []string{"b"}, nil)
			ok(t, "Write", other.Write(1, 0, "c"))
			ok(t, "Crash", other.Crash([]bool{false, false, true}))
			is(t, other, []string{""}, []string{"c"}, nil)
		}
	}
}

// plain is an array by the chapter's words: each write stands in one list,
// and tells its disk.
type plain struct {
	size    int
	works   []bool
	flushed [][]string
	waits   []waits
	down    bool
	left    int // below 0: there is no fuse
}

type waits struct {
	d, n int
	s    string
}

func (p *plain) err(d, n int, s string) api.Errno {
	switch {
	case d < 0 || d >= len(p.works):
		return api.ErrArg
	case !p.works[d]:
		return api.ErrGone
	case n < 0 || n >= len(p.flushed[d]):
		return api.ErrArg
	case len(s) > p.size:
		return api.ErrBig
	}
	return api.OK
}

func (p *plain) now() [][]string {
	now := make([][]string, len(p.works))
	for d := range now {
		if p.works[d] {
			now[d] = slices.Clone(p.flushed[d])
		}
	}
	for _, w := range p.waits {
		now[w.d][w.n] = w.s
	}
	return now
}

func (p *plain) write(d, n int, s string) api.Errno {
	if p.down {
		return api.ErrPower
	}
	if err := p.err(d, n, s); err != api.OK {
		return err
	}
	if p.left == 0 {
		p.down = true
		return api.ErrPower
	}
	p.left--
	p.waits = append(p.waits, waits{d, n, s})
	return api.OK
}

func (p *plain) flush() api.Errno {
	if p.down {
		return api.ErrPower
	}
	for _, w := range p.waits {
		p.flushed[w.d][w.n] = w.s
	}
	p.waits = nil
	return api.OK
}

func (p *plain) crash(keep []bool) api.Errno {
	slices.SortStableFunc(p.waits, func(v, w waits) int { return v.d - w.d })
	for i, w := range p.waits {
		if i < len(keep) && keep[i] {
			p.flushed[w.d][w.n] = w.s
		}
	}
	p.waits, p.down, p.left = nil, false, -1
	return api.OK
}

func (p *plain) corrupt(d, n int, s string) api.Errno {
	err := p.err(d, n, s)
	if err == api.OK {
		p.flushed[d][n] = s
		p.waits = slices.DeleteFunc(p.waits, func(w waits) bool { return w.d == d && w.n == n })
	}
	return err
}

func (p *plain) blank(d int, works bool) api.Errno {
	if d < 0 || d >= len(p.works) {
		return api.ErrArg
	}
	p.works[d], p.flushed[d] = works, make([]string, len(p.flushed[d]))
	p.waits = slices.DeleteFunc(p.waits, func(w waits) bool { return w.d == d })
	return api.OK
}

func (p *plain) copy() *plain {
	q := &plain{p.size, slices.Clone(p.works), slices.Clone(p.flushed), slices.Clone(p.waits), p.down, p.left}
	for d := range q.flushed {
		q.flushed[d] = slices.Clone(q.flushed[d])
	}
	return q
}

// holds says the same to both, as dice fall, and compares their errors.
func holds(t *testing.T, a *array.Array, p *plain, dice func(int) int) {
	t.Helper()
	d := dice(len(p.works)+2) - 1
	n := dice(len(p.flushed[0])+2) - 1
	s := strings.Repeat(string(rune('a'+dice(26))), dice(p.size+2))
	var got, want api.Errno
	switch dice(50) {
	case 0, 1:
		got, want = a.Fail(d), p.blank(d, false)
	case 2, 3:
		got, want = a.Replace(d), p.blank(d, true)
	case 4, 5, 6:
		got, want = a.Corrupt(d, n, s), p.corrupt(d, n, s)
	case 7, 8, 9, 10:
		keep := make([]bool, dice(len(p.waits)+3))
		for i := range keep {
			keep[i] = dice(2) == 1
		}
		got, want = a.Crash(keep), p.crash(keep)
	case 11, 12:
		got, want = a.Flush(), p.flush()
	case 13, 14:
		p.left = dice(8)
		got = a.Fuse(p.left)
	default:
		got, want = a.Write(d, n, s), p.write(d, n, s)
	}
	if got != want {
		t.Fatalf("an error: %d instead of %d", got, want)
	}
}

func compare(t *testing.T, a *array.Array, p *plain) {
	t.Helper()
	if p.down {
		isDown(t, a)
	} else {
		is(t, a, p.now()...)
	}
	if t.Failed() {
		t.FailNow()
	}
}

func TestAsAPlainArray(t *testing.T) { // P10.1 to P10.4, R3, R6
	x := uint64(10)
	dice := func(sides int) int {
		x = x*6364136223846793005 + 1442695040888963407
		return int(x>>33) % sides
	}
	for range 200 {
		disks, sectors, size := 1+dice(4), 1+dice(3), 1+dice(4)
		a, p := made(t, disks, sectors, size), &plain{size: size, works: slices.Repeat([]bool{true}, disks), left: -1}
		for range disks {
			p.flushed = append(p.flushed, make([]string, sectors))
		}
		b, q := a.Copy(), p.copy()
		for range 150 {
			holds(t, a, p, dice)
			holds(t, b, q, dice)
			if dice(30) == 0 {
				b, q = a.Copy(), p.copy()
			}
			compare(t, a, p)
			compare(t, b, q)
		}
	}
}
