package shell_test

import (
	"bytes"
	"maps"
	"math/rand"
	"slices"
	"strconv"
	"strings"
	"testing"

	"sheetpile/api"
	"sheetpile/array"
	"sheetpile/block"
	"sheetpile/conf"
	"sheetpile/dir"
	"sheetpile/intent"
	"sheetpile/key"
	"sheetpile/log"
	"sheetpile/rebuild"
	"sheetpile/rs"
	"sheetpile/scan"
	"sheetpile/shell"
	"sheetpile/store"
	"sheetpile/stripe"
	"sheetpile/volume"
)

// layouts are those of the long runs.
var layouts = []api.Conf{
	wide,
	{K: 1, M: 2, Shard: 40, Stripes: 9, Slots: 2},
	{K: 2, M: 2, Shard: 24, Stripes: 10, Slots: 1},
	{K: 4, M: 1, Shard: 8, Stripes: 15, Slots: 3},
	{K: 3, M: 3, Shard: 20, Stripes: 8, Slots: 5},
}

// life is a session beside a plain map: the groups that were synced, and those
// that wait.
type life struct {
	t      *testing.T
	random *rand.Rand
	c      api.Conf
	s      *shell.Session
	synced [][]api.Change
	waits  [][]api.Change
	used   int
	isOpen bool
	bad    map[int]bool
	failed map[int]bool
	many   int // how many values there were
}

func live(t *testing.T, c api.Conf, seed int) *life {
	return &life{t: t, random: rand.New(rand.NewSource(int64(seed))), c: c, s: begun(t, c), isOpen: true, bad: map[int]bool{}, failed: map[int]bool{}}
}

func mapOf(groups ...[]api.Change) map[string]string {
	pairs := map[string]string{}
	for _, l := range groups {
		for _, c := range l {
			pairs[c.Key] = c.Value
			if c.Gone {
				delete(pairs, c.Key)
			}
		}
	}
	return pairs
}

func (l *life) pairs() map[string]string { return mapOf(slices.Concat(l.synced, l.waits)...) }

// size is chapter 19's: how many bytes a group has.
func size(l []api.Change) int {
	n := 13
	for _, c := range l {
		n += 3 + len(c.Key)
		if !c.Gone {
			n += 2 + len(c.Value)
		}
	}
	return n
}

func sizes(groups [][]api.Change) int {
	n := 0
	for _, l := range groups {
		n += size(l)
	}
	return n
}

// says is a line, what is said to it, and what should be.
func (l *life) says(line string, want string) {
	l.t.Helper()
	if got := l.s.Say(line); got != want {
		l.t.Errorf("%v: %.200q: %.200q, not %.200q", l.c, line, got, want)
	}
}

// key is one of a few, of which some must be quoted.
func (l *life) key() string { return []string{"a", "b", "c d", "%", "\u00e9"}[l.random.Intn(5)] }

func (l *life) value() string {
	l.many++
	return strconv.Itoa(l.many) + string([]byte{0, ' ', '%', 255}[:l.random.Intn(5)])
}

// change is a line of puts, or of keys that are gone, and what is said to it.
func (l *life) change() {
	l.t.Helper()
	var g []api.Change
	line := "put"
	isGone := l.random.Intn(3) == 0
	if isGone {
		line = "del"
	}
	for range 1 + l.random.Intn(3) {
		c := api.Change{Key: l.key(), Gone: isGone}
		line += " " + key.Quote(c.Key)
		if !isGone {
			c.Value = l.value()
			line += " " + key.Quote(c.Value)
		}
		g = append(g, c)
	}
	if l.used+sizes(l.waits)+size(g) > (l.c.Stripes-1)/2*conf.Capacity(l.c) {
		l.says(line, "error 11")
		return
	}
	l.says(line, "ok")
	l.waits = append(l.waits, g)
}

// looks holds all that a session tells against the map.
func (l *life) looks() {
	l.t.Helper()
	pairs := l.pairs()
	words := "keys"
	for _, k := range slices.Sorted(maps.Keys(pairs)) {
		words += " " + key.Quote(k)
		l.says("get "+key.Quote(k), "value "+key.Quote(pairs[k]))
	}
	l.says("list", words)
	l.says("get none", "error 13")
	l.says("stat", "used "+strconv.Itoa(l.used)+" pending "+strconv.Itoa(len(l.waits)))
}

func (l *life) sync() {
	l.t.Helper()
	l.says("sync", "ok")
	l.isSynced()
}

func (l *life) isSynced() {
	l.used += sizes(l.waits)
	l.synced, l.waits = slices.Concat(l.synced, l.waits), nil
}

func (l *life) merge() {
	l.t.Helper()
	l.says("merge", "ok")
	l.isMerged(l.pairs())
}

func (l *life) isMerged(pairs map[string]string) {
	l.synced, l.waits, l.used = nil, nil, 0
	var g []api.Change
	for _, k := range slices.Sorted(maps.Keys(pairs)) {
		g = append(g, api.Change{Key: k, Value: pairs[k]})
	}
	if len(g) > 0 {
		l.synced, l.used = [][]api.Change{g}, size(g)
	}
}

// open is behind a crash, or not: what waits is gone.
func (l *life) open() {
	l.t.Helper()
	l.says("open", "ok")
	l.waits = nil
}

// damage makes a disk bad, if no more than M are then; in one of the ways.
func (l *life) damage() {
	l.t.Helper()
	d := l.random.Intn(conf.Disks(l.c))
	if !l.bad[d] && len(l.bad) == l.c.M {
		return
	}
	l.bad[d] = true
	disk := strconv.Itoa(d)
	switch l.random.Intn(4) {
	case 0:
		l.says("fail "+disk, "ok")
		l.failed[d] = true
	case 1:
		l.says("replace "+disk, "ok")
		l.failed[d] = false
	default:
		want := "ok"
		if l.failed[d] {
			want = "error 8"
		}
		for range l.random.Intn(conf.Sectors(l.c)) {
			l.says("corrupt "+disk+" "+strconv.Itoa(l.random.Intn(conf.Sectors(l.c)))+" junk", want)
		}
	}
}

func (l *life) heal() {
	l.t.Helper()
	for d := range conf.Disks(l.c) {
		if l.failed[d] {
			l.says("replace "+strconv.Itoa(d), "ok")
		}
	}
	if got := l.s.Say("scrub"); !strings.HasPrefix(got, "mended ") || !strings.HasSuffix(got, " lost 0") {
		l.t.Errorf("scrub: %q", got)
	}
	l.says("scrub", "mended 0 lost 0")
	clear(l.bad)
	clear(l.failed)
}

func (l *life) step() {
	l.t.Helper()
	switch l.random.Intn(10) {
	case 0:
		l.sync()
	case 1:
		l.merge()
	case 2:
		l.open()
	case 3, 4:
		l.damage()
	case 5:
		l.heal()
	default:
		l.change()
	}
	l.looks()
}

// With at most M disks bad, all that is said is what a plain map says.
func TestLife(t *testing.T) { // P2, P24.3
	for seed, c := range layouts {
		l := live(t, c, seed)
		for step := range 600 {
			l.step()
			if t.Failed() {
				t.Fatalf("%v, step %d", c, step)
			}
		}
	}
}

// crash is at some write of what a line does, or behind it, with some of what
// waits kept. If open is cut, too, no other disk is bad till it is done.
func (l *life) crash(line string) {
	l.t.Helper()
	l.says("fuse "+strconv.Itoa(l.random.Intn(12*conf.Disks(l.c))), "ok")
	answer := l.s.Say(line)
	if answer == "error 9" && line != "scrub" {
		l.says("list", "closed")
	}
	l.says("crash"+l.kept(), "ok")
	l.says("get a", "closed")
	for l.random.Intn(3) == 0 {
		l.says("fuse "+strconv.Itoa(l.random.Intn(10)), "ok")
		if got := l.s.Say("open"); got != "ok" && got != "error 9" {
			l.t.Errorf("open: %q", got)
		}
		l.says("crash"+l.kept(), "ok")
	}
	l.says("open", "ok")
	l.isBegun(line, answer)
}

func (l *life) kept() string {
	s := ""
	for range l.random.Intn(3 * conf.Disks(l.c)) {
		s += strconv.Itoa(l.random.Intn(2))
	}
	if s != "" {
		s = " " + s
	}
	return s
}

// isBegun holds the map behind a crash against what was synced, and some of the
// first groups that waited; all of them, if that was said to be done.
func (l *life) isBegun(line string, answer string) {
	l.t.Helper()
	got := l.told()
	from := 0
	if answer == "ok" && (line == "sync" || line == "merge") {
		from = len(l.waits)
	}
	for n := from; n <= len(l.waits); n++ {
		pairs := mapOf(slices.Concat(l.synced, l.waits[:n])...)
		if maps.Equal(got, pairs) && (n == 0 || line == "sync" || line == "merge") {
			// How many bytes there are hangs on how far it came.
			l.says("merge", "ok")
			l.isMerged(pairs)
			return
		}
	}
	l.t.Errorf("%s: %s: %v behind %v, %v", line, answer, got, mapOf(l.synced...), l.waits)
}

// told is the map that list and get tell.
func (l *life) told() map[string]string {
	pairs := map[string]string{}
	for _, word := range strings.Split(l.s.Say("list"), " ")[1:] {
		k, _ := key.Unquote(word)
		value, is := strings.CutPrefix(l.s.Say("get "+word), "value ")
		v, err := key.Unquote(value)
		if !is || err != api.OK {
			l.t.Errorf("get %q: %q", word, value)
		}
		pairs[k] = v
	}
	return pairs
}

// Behind a crash, wherever, the map is what was synced, and some of the first
// groups that waited; with up to M bad disks beside.
func TestCrashes(t *testing.T) { // P3, P2
	for seed, c := range layouts {
		l := live(t, c, 100+seed)
		for step := range 600 {
			switch l.random.Intn(6) {
			case 0:
				l.crash("sync")
			case 1:
				l.crash("merge")
			case 2:
				l.crash([]string{"scrub", "open", "stat", "list"}[l.random.Intn(4)])
			default:
				l.step()
			}
			l.looks()
			if t.Failed() {
				t.Fatalf("%v, step %d", c, step)
			}
		}
	}
}

// A crash is tried between any two writes of a few lines, with all, none and
// some of what waits kept, and with each disk that may be bad.
func TestCrashAtEachWrite(t *testing.T) { // P3
	c := wide
	lines := []string{"put a 1 b 1", "put a 2 b 2", "sync", "put a 3 b 3", "put a 4 b 4", "merge", "del a b", "sync", "put a 5 b 5", "merge"}
	// The last value that is synced for sure behind each line, if none is cut.
	sure := []int{0, 0, 2, 2, 2, 4, 4, 0, 0, 5}
	for fuse := range 70 {
		for _, keep := range []string{"", " 1111", " 0101", " 1010"} {
			for _, bad := range []string{"", "fail 0", "replace 1", "corrupt 2 3 x"} {
				s := talk(t, c, "fuse "+strconv.Itoa(fuse)+" -> ok")
				if bad != "" {
					goOn(t, s, bad+" -> ok")
				}
				done, cut := 0, false
				for i, line := range lines {
					if s.Say(line) != "ok" {
						cut = true
						break
					}
					done = i + 1
				}
				goOn(t, s, "crash"+keep+" -> ok", "open -> ok")
				a, b := s.Say("get a"), s.Say("get b")
				if a != b {
					t.Errorf("fuse %d, kept %q, %q: a group is split: %q, %q", fuse, keep, bad, a, b)
				}
				allowed := []int{0}
				if done > 0 {
					allowed = []int{sure[done-1]}
				}
				if cut {
					allowed = append(allowed, [][]int{0: {}, 1: {}, 2: {1, 2}, 5: {3, 4}, 7: {0}, 9: {5}}[done]...)
				}
				if !slices.ContainsFunc(allowed, func(n int) bool { return n == 0 && a == "error 13" || a == "value "+strconv.Itoa(n) }) {
					t.Errorf("fuse %d, kept %q, %q: %q behind %d lines, not one of %v", fuse, keep, bad, a, done, allowed)
				}
			}
		}
	}
}

// Whichever M shards are gone, the text comes back; shards that are changed one
// by one are a codeword all along.
func TestCode(t *testing.T) { // P1
	random := rand.New(rand.NewSource(1))
	for _, c := range layouts {
		text := strings.Repeat("text \xff", 1+conf.Capacity(c)/6)[:conf.Capacity(c)]
		shards, err := stripe.Split(c, text)
		if err != api.OK || !rs.Is(c.K, shards) {
			t.Fatalf("%v: no codeword, %d", c, err)
		}
		for set := range 1 << conf.Disks(c) {
			have, left := make([]bool, conf.Disks(c)), 0
			damaged := slices.Clone(shards)
			for d := range have {
				if have[d] = set&(1<<d) == 0; have[d] {
					left++
				} else {
					damaged[d] = strings.Repeat("!", c.Shard)
				}
			}
			got, err := stripe.Join(c, damaged, have)
			if left >= c.K && (got != text || err != api.OK) || left < c.K && (got != "" || err != api.ErrFew) {
				t.Errorf("%v, of %v: %q, %d", c, have, got, err)
			}
		}
		for range 20 {
			n := random.Intn(c.K)
			data := make([]byte, c.Shard)
			random.Read(data)
			was := slices.Clone(shards)
			shards, err = rs.Delta(shards, c.K, n, string(data))
			was[n] = string(data)
			want, _ := rs.Encode(was[:c.K], c.M)
			if err != api.OK || !rs.Is(c.K, shards) || !slices.Equal(shards, want) {
				t.Errorf("%v: Delta of %d: %q, %d", c, n, shards, err)
			}
		}
	}
}

// A rebuild ends, however often it is cut; then any M disks may fail.
func TestHealing(t *testing.T) { // P4
	for seed, c := range layouts {
		random := rand.New(rand.NewSource(int64(seed)))
		a, _ := array.New(conf.Disks(c), conf.Sectors(c), conf.Size(c))
		s, err := store.Make(a, c, 1)
		if err != api.OK {
			t.Fatalf("Make: %d", err)
		}
		s.Update([]api.Change{{Key: "a", Value: "1"}, {Key: "b", Value: "2"}})
		s.Sync()
		for round := range 6 {
			r, err := rebuild.Start(a, s.Volume(), random.Intn(conf.Disks(c)))
			if err != api.OK {
				t.Fatalf("Start: %d", err)
			}
			steps := 0
			for done := false; !done; steps++ {
				isCut := steps%2 == 0 && steps < 20
				if isCut {
					a.Fuse(random.Intn(2))
				}
				if done, err = r.Step(1); err == api.ErrPower {
					a.Crash([]bool{true})
					s, _ = store.Open(a, 1)
					r.Again(s.Volume())
				}
			}
			if steps > c.Stripes+20 {
				t.Errorf("%v: %d steps", c, steps)
			}
			a.Crash(nil)
			x := a.Copy()
			for _, d := range random.Perm(conf.Disks(c))[:c.M] {
				x.Fail(d)
			}
			s, err = store.Open(x, 1)
			if v, _ := s.Get("b"); v != "2" || err != api.OK {
				t.Errorf("%v, round %d: %q, %d", c, round, v, err)
			}
			s, _ = store.Open(a, 1)
		}
	}
}

// What is read of a hint is what a whole scan tells.
func TestHints(t *testing.T) { // P5
	c := layouts[1]
	random := rand.New(rand.NewSource(5))
	a, _ := array.New(conf.Disks(c), conf.Sectors(c), conf.Size(c))
	s, err := store.Make(a, c, 1)
	if err != api.OK {
		t.Fatalf("Make: %d", err)
	}
	for i := range 40 {
		k := string(rune('a' + random.Intn(5)))
		change := api.Change{Key: k, Value: strconv.Itoa(i)}
		if random.Intn(3) == 0 {
			change = api.Change{Key: k, Gone: true}
		}
		if s.Update([]api.Change{change}) == api.ErrFull {
			break
		}
		s.Sync()
		l, err := log.Open(s.Volume(), 1, (c.Stripes-1)/2)
		if err != api.OK {
			t.Fatalf("log.Open: %d", err)
		}
		groups, _ := scan.All(l.Text())
		var scanned []api.Pair
		for _, g := range groups {
			scanned = dir.Apply(scanned, g.Changes)
		}
		hint, err := dir.Hint(scanned)
		read, readErr := dir.Read(hint)
		if err != api.OK || readErr != api.OK || !slices.Equal(read, scanned) {
			t.Errorf("%v, not %v; %d, %d", read, scanned, err, readErr)
		}
		keys := s.List()
		for i, p := range read {
			if v, _ := s.Get(p.Key); len(keys) != len(read) || keys[i] != p.Key || v != p.Value {
				t.Errorf("%q: %q, not %q", p.Key, v, p.Value)
			}
		}
	}
}

// soup are words of lines that may be said, and of ones that may not.
func soup(random *rand.Rand, c api.Conf) string {
	some := func(l ...string) string { return l[random.Intn(len(l))] }
	number := func(most int) string { return strconv.Itoa(random.Intn(most + 1)) }
	text := func() string {
		b := make([]byte, random.Intn(4))
		random.Read(b)
		return some("a", "b", "c", "%", "%00", "a%20b", key.Quote(string(b)), string(b), strings.Repeat("x", random.Intn(80)))
	}
	switch random.Intn(14) {
	case 0, 1, 2:
		return "put " + text() + " " + text() + some("", "", " "+text()+" "+text(), " "+text())
	case 3:
		return "del " + text() + some("", "", " "+text())
	case 4:
		return "get " + text()
	case 5:
		return some("list", "stat", "scrub", "scrub x")
	case 6, 7:
		return some("sync", "merge", "sync", "merge", "sync 1")
	case 8, 9:
		return some("open", "open", "open", "crash", "crash 10", "crash 0110", "crash 2")
	case 10:
		return some("fail ", "replace ", "replace ") + number(conf.Disks(c))
	case 11:
		return "corrupt " + number(conf.Disks(c)) + " " + number(conf.Sectors(c)) + " " + some(text(), forged(random, c))
	case 12:
		return "fuse " + number(40)
	}
	b := make([]byte, random.Intn(12))
	random.Read(b)
	return some("", " ", "x", "put", string(b), text()+" "+text())
}

// forged is what a sector of some disk might have, sealed, and with a right sum.
func forged(random *rand.Rand, c api.Conf) string {
	seq := []int{0, 1, 5, 1000, 1<<56 - 2, 1<<56 - 1}[random.Intn(6)]
	log, _ := scan.Write(random.Intn(3), [][]api.Change{{{Key: "a", Value: "forged"}}})
	text := []string{"", "A", "B", "C", log, log + log, "junk"}[random.Intn(7)]
	record, _ := intent.Write(intent.Intent{Seq: seq, Stripe: random.Intn(c.Stripes), Text: text})
	layout, _ := conf.Write([]api.Conf{c, {K: c.K, M: c.M, Shard: 8, Stripes: 3, Slots: 1}, {K: c.K, M: c.M, Shard: c.Shard, Stripes: 2, Slots: 1}}[random.Intn(3)])
	parts, _ := stripe.Split(c, text)
	d := random.Intn(conf.Disks(c))
	b := block.Block{Array: 1, Disk: d, Epoch: seq}
	switch random.Intn(3) {
	case 0:
		b.Text = layout
	case 1:
		b.Place, b.Text = conf.Slot(c, seq), record
	default:
		b.Place = conf.Stripe(c, random.Intn(c.Stripes))
		if parts != nil {
			b.Text = parts[d]
		}
	}
	s, _ := block.Seal(b)
	return key.Quote(s)
}

// Whatever disks have, and whatever is said, there is an answer; and the same
// again, it is the same.
func TestAny(t *testing.T) { // P6, R1, R6
	for seed := range 60 {
		c := layouts[seed%len(layouts)]
		random := rand.New(rand.NewSource(int64(seed)))
		var lines []string
		for range 400 {
			lines = append(lines, soup(random, c))
		}
		answers := said(t, c, lines...)
		for i, line := range lines {
			if !isAnswer(line, answers[i]) {
				t.Errorf("%q: %q", line, answers[i])
			}
		}
		if !slices.Equal(said(t, c, lines...), answers) {
			t.Errorf("seed %d: another run says something else", seed)
		}
	}
}

// Any bytes on all disks, sealed ones too: there is a store, or an error.
func TestAnyDisks(t *testing.T) { // P6
	errors := map[api.Errno]int{}
	for seed := range 400 {
		c := layouts[seed%len(layouts)]
		random := rand.New(rand.NewSource(int64(seed)))
		a, _ := array.New(conf.Disks(c), conf.Sectors(c), conf.Size(c))
		s, _ := store.Make(a, c, 1)
		s.Update([]api.Change{{Key: "a", Value: "1"}})
		s.Sync()
		for range random.Intn(4 * conf.Sectors(c)) {
			b := make([]byte, random.Intn(conf.Size(c)))
			random.Read(b)
			a.Corrupt(random.Intn(conf.Disks(c)), random.Intn(conf.Sectors(c)), string(b))
			forgedText, _ := key.Unquote(forged(random, c))
			other, _ := block.Open(forgedText)
			a.Corrupt(other.Disk, other.Place, forgedText)
		}
		s, err := store.Open(a, 1)
		errors[err]++
		if (s == nil) != (err != api.OK) {
			t.Errorf("seed %d: %v, %d", seed, s, err)
		}
		s.Update([]api.Change{{Key: "b", Value: "2"}})
		s.Sync()
		s.Merge()
		s.Get("a")
		s.List()
	}
	if errors[api.OK] == 0 || errors[api.ErrLost] == 0 {
		t.Errorf("too few kinds of ends: %v", errors)
	}
}

// Any text may be a log's: what is opened then has its first whole groups, and
// is opened as the same again.
func TestAnyLog(t *testing.T) { // P6, P3
	c := layouts[1]
	random := rand.New(rand.NewSource(3))
	for range 300 {
		a, _ := array.New(conf.Disks(c), conf.Sectors(c), conf.Size(c))
		v, _ := volume.Make(a, c, 1)
		v.Write(0, []string{"A", "B"}[random.Intn(2)])
		whole, _ := scan.Write(0, [][]api.Change{{{Key: "a", Value: "1"}}, {{Key: "b", Value: "2"}}, {{Key: "a", Gone: true}}, {{Key: "c"}}})
		text := []byte(whole)
		for range random.Intn(3) {
			text[random.Intn(len(text))] ^= byte(1 << random.Intn(8))
		}
		text = bytes.Repeat(text, 1+random.Intn(2))[:random.Intn(len(text))]
		for n := 1; n < c.Stripes; n++ {
			part := min(len(text), conf.Capacity(c))
			v.Write(n, string(text[:part]))
			text = text[part:]
		}
		s, err := store.Open(a, 1)
		if err != api.OK {
			t.Fatalf("Open: %d", err)
		}
		want, used := s.List(), s.Used()
		s.Update([]api.Change{{Key: "z", Gone: true}})
		s.Sync()
		s, err = store.Open(a, 1)
		if err != api.OK || !slices.Equal(s.List(), want) || s.Used() != used+17 {
			t.Errorf("opened again: %q, %d, not %q; %d", s.List(), s.Used(), want, err)
		}
	}
}

// Of more than M disks that are lost, or stripes that are damaged, get tells the
// value that was put last, or an error.
func TestAnyDamage(t *testing.T) { // P24.3
	for seed := range 40 {
		c := layouts[seed%len(layouts)]
		l := live(t, c, 1000+seed)
		for range 200 {
			d := strconv.Itoa(l.random.Intn(conf.Disks(c)))
			switch l.random.Intn(12) {
			case 0:
				l.s.Say("fail " + d)
			case 1, 2:
				l.s.Say("replace " + d)
			case 3:
				l.s.Say("corrupt " + d + " " + strconv.Itoa(conf.Stripe(c, l.random.Intn(c.Stripes))) + " junk")
			case 4:
				l.s.Say("scrub")
			case 5:
				l.reopen()
			case 6:
				if l.isOpen {
					l.end("sync")
				}
			case 7:
				if l.isOpen {
					l.end("merge")
				}
			default:
				if l.isOpen {
					l.change()
				}
			}
			l.getsNoOther()
		}
	}
}

// reopen goes on with what is told, be it after a sync that was not said to be
// done: then some of the first groups that waited may be there.
func (l *life) reopen() {
	l.t.Helper()
	wasOpen := l.isOpen
	if l.isOpen = l.s.Say("open") == "ok"; !l.isOpen {
		return
	}
	got := l.told()
	for n := range len(l.waits) + 1 {
		pairs := mapOf(slices.Concat(l.synced, l.waits[:n])...)
		if maps.Equal(got, pairs) && (n == 0 || !wasOpen) {
			l.isMerged(pairs)
			used, _, _ := strings.Cut(strings.TrimPrefix(l.s.Say("stat"), "used "), " ")
			l.used, _ = strconv.Atoi(used)
			return
		}
	}
	l.t.Fatalf("open: %v behind %v, %v", got, mapOf(l.synced...), l.waits)
}

// end is a sync or a merge; with an error it is not known how far it came.
func (l *life) end(line string) {
	pairs := l.pairs()
	switch answer := l.s.Say(line); {
	case answer != "ok":
		l.isOpen = false
	case line == "merge":
		l.isMerged(pairs)
	default:
		l.isSynced()
	}
}

func (l *life) getsNoOther() {
	l.t.Helper()
	pairs := l.pairs()
	for _, k := range []string{"a", "b", "c d", "%", "\u00e9"} {
		got := l.s.Say("get " + key.Quote(k))
		v, is := pairs[k]
		if got != "closed" && (is && got != "value "+key.Quote(v) || !is && got != "error 13") {
			l.t.Fatalf("%v: get %q: %q, not %q, %v", l.c, k, got, v, is)
		}
	}
}
