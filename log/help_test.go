package log_test

import (
	"slices"
	"strconv"
	"testing"

	"sheetpile/api"
	"sheetpile/array"
	"sheetpile/conf"
	"sheetpile/log"
	"sheetpile/volume"
)

const id = 7

// scene is a log on some of a volume's stripes, and what all of these have.
type scene struct {
	c     api.Conf
	from  int
	count int
	parts []string
}

// bare are scenes whose logs have no text; the stripes that are not theirs
// have some.
func bare() []scene {
	var list []scene
	for _, x := range []struct {
		c     api.Conf
		from  int
		count int
	}{
		{api.Conf{K: 1, M: 1, Shard: 8, Stripes: 1, Slots: 1}, 0, 1},
		{api.Conf{K: 1, M: 1, Shard: 8, Stripes: 5, Slots: 2}, 1, 3},
		{api.Conf{K: 2, M: 1, Shard: 8, Stripes: 4, Slots: 1}, 0, 3},
		{api.Conf{K: 1, M: 2, Shard: 9, Stripes: 3, Slots: 3}, 2, 1},
		{api.Conf{K: 3, M: 2, Shard: 8, Stripes: 3, Slots: 2}, 1, 2},
		{api.Conf{K: 2, M: 2, Shard: 8, Stripes: 4, Slots: 16}, 0, 4},
	} {
		parts := make([]string, x.c.Stripes)
		for n := range parts {
			if n < x.from || n >= x.from+x.count {
				parts[n] = "#" + strconv.Itoa(n)
			}
		}
		list = append(list, scene{c: x.c, from: x.from, count: x.count, parts: parts})
	}
	return list
}

// crowded is one of them, with a text, and with stripes behind its end that are
// not empty.
func crowded(parts ...string) scene {
	return scene{c: api.Conf{K: 1, M: 1, Shard: 8, Stripes: len(parts) + 2, Slots: 2}, from: 1, count: len(parts), parts: slices.Concat([]string{"head"}, parts, []string{"tail"})}
}

// someCrowded have stripes that a text does not reach, directly behind its end
// or not, short ones and full ones.
func someCrowded() []scene {
	return []scene{
		crowded("", "junk", "", ""),
		crowded("", "", "", "j"),
		crowded("ab", "junk", "more", "ju"),
		crowded("ab", "ju", "", "more"),
		crowded("abcd", "e", "", "junk"),
		crowded("abcd", "", "junk", "more"),
		crowded("abcd", "efgh", "", "junk"),
		crowded("abcd", "efgh", "ij", "k"),
	}
}

// all are the crowded ones, and the bare ones with texts of each of their lengths.
func all() []scene {
	list := someCrowded()
	for _, s := range bare() {
		for _, length := range s.lengths() {
			list = append(list, s.with(letters(0, length)))
		}
	}
	return list
}

func (s scene) size() int { return conf.Capacity(s.c) }

func (s scene) own() []string { return s.parts[s.from : s.from+s.count] }

// text is the chapter's words: what the stripes have, up to the first short one.
func (s scene) text() string {
	text := ""
	for _, part := range s.own() {
		text += part
		if len(part) < s.size() {
			break
		}
	}
	return text
}

// with is the same one, of which the log's stripes have this text, and nothing
// behind it.
func (s scene) with(text string) scene {
	s.parts = slices.Clone(s.parts)
	for n := range s.count {
		part := text[:min(len(text), s.size())]
		s.parts[s.from+n] = part
		text = text[len(part):]
	}
	return s
}

// steps are what all stripes have at first, and behind each write that makes
// them what they are in another one: the first one first, or the last one.
func (s scene) steps(to scene, lastFirst bool) [][]string {
	list := [][]string{s.parts}
	for i := range s.parts {
		n := i
		if lastFirst {
			n = len(s.parts) - 1 - i
		}
		if s.parts[n] != to.parts[n] {
			next := slices.Clone(list[len(list)-1])
			next[n] = to.parts[n]
			list = append(list, next)
		}
	}
	return list
}

// writes are how many sectors an array writes for a stripe: intents, and shards.
func (s scene) writes() int { return s.c.M + 1 + s.c.K + s.c.M }

// laid is an array and a volume whose stripes have just this.
func (s scene) laid(t *testing.T) (*array.Array, *volume.Volume) {
	t.Helper()
	a, err := array.New(conf.Disks(s.c), conf.Sectors(s.c), conf.Size(s.c))
	ok(t, "array.New", err)
	v, err := volume.Make(a, s.c, id)
	if v == nil || err != api.OK {
		t.Fatalf("volume.Make(%v): %d", s.c, err)
	}
	for n, part := range s.parts {
		if part == "" {
			continue
		}
		if err := v.Write(n, part); err != api.OK {
			t.Fatalf("volume.Write(%d, %q): %d", n, part, err)
		}
	}
	return a, v
}

func (s scene) open(t *testing.T, v *volume.Volume) *log.Log {
	t.Helper()
	l, err := log.Open(v, s.from, s.count)
	if l == nil || err != api.OK {
		t.Fatalf("%v: Open(%d, %d): %d", s.c, s.from, s.count, err)
	}
	return l
}

// opened is all of it.
func (s scene) opened(t *testing.T) (*array.Array, *volume.Volume, *log.Log) {
	t.Helper()
	a, v := s.laid(t)
	return a, v, s.open(t, v)
}

// again is the volume and the log behind a crash that keeps some of the writes
// that wait.
func (s scene) again(t *testing.T, a *array.Array, keep []bool) (*volume.Volume, *log.Log) {
	t.Helper()
	ok(t, "Crash", a.Crash(keep))
	v, err := volume.Open(a, id)
	if v == nil || err != api.OK {
		t.Fatalf("volume.Open: %d", err)
	}
	return v, s.open(t, v)
}

// tells holds what a log tells against this.
func (s scene) tells(t *testing.T, what string, l *log.Log) {
	t.Helper()
	for range 2 {
		if text, room := l.Text(), l.Room(); text != s.text() || room != s.count*s.size()-len(text) {
			t.Errorf("%s: %.80q: %q, and room for %d", what, s.parts, text, room)
		}
	}
}

// has holds what a volume's stripes have against this, and what a log tells.
func (s scene) has(t *testing.T, what string, v *volume.Volume, l *log.Log) {
	t.Helper()
	stripesAre(t, what, v, s.parts)
	s.tells(t, what, l)
	s.tells(t, what+", opened", s.open(t, v))
}

func stripesAre(t *testing.T, what string, v *volume.Volume, want []string) {
	t.Helper()
	if got := stripes(t, v); !slices.Equal(got, want) {
		t.Errorf("%s: the stripes have %q, not %q", what, got, want)
	}
}

func stripes(t *testing.T, v *volume.Volume) []string {
	t.Helper()
	var list []string
	for n := range v.Conf().Stripes {
		s, err := v.Read(n)
		ok(t, "volume.Read", err)
		list = append(list, s)
	}
	return list
}

// does holds what a call writes, and in which order, against steps: the power
// goes at each write of a stripe, and just behind the last one.
func (s scene) does(t *testing.T, what string, call func(l *log.Log) api.Errno, to scene, lastFirst bool) {
	t.Helper()
	steps := s.steps(to, lastFirst)
	last := len(steps) - 1
	for done, want := range steps {
		a, v, l := s.opened(t)
		ok(t, "Fuse", a.Fuse(done*s.writes()))
		err := call(l)
		if done < last && err != api.ErrPower || done == last && err != api.OK {
			t.Errorf("%s: %q, fuse for %d stripes of %d: %d", what, s.parts, done, last, err)
		}
		if done == last {
			to.has(t, what, v, l)
		}
		if err := a.Write(0, 0, ""); err != api.ErrPower {
			t.Errorf("%s: %q: fewer writes than for %d stripes", what, s.parts, done)
		}
		v, l = s.again(t, a, nil)
		stripesAre(t, what+", behind a crash", v, want)
		scene{c: s.c, from: s.from, count: s.count, parts: want}.tells(t, what+", behind a crash", l)
	}
}

// letters are so many bytes of a text that is nowhere the same.
func letters(from int, many int) string {
	b := make([]byte, many)
	for i := range b {
		b[i] = byte('0' + from + i)
	}
	return string(b)
}

// lengths are those of texts one byte below, at, and one byte above a whole
// number of stripes, as far as they go in.
func (s scene) lengths() []int {
	var list []int
	for n := range s.count + 1 {
		for _, length := range []int{n*s.size() - 1, n * s.size(), n*s.size() + 1} {
			if length >= 0 && length <= s.count*s.size() {
				list = append(list, length)
			}
		}
	}
	return list
}

func ok(t *testing.T, what string, err api.Errno) {
	t.Helper()
	if err != api.OK {
		t.Errorf("%s: %d", what, err)
	}
}

// sectors are what all disks have that work.
func sectors(a *array.Array, c api.Conf) []string {
	var list []string
	for d := range a.Disks() {
		for n := range conf.Sectors(c) {
			s, err := a.Read(d, n)
			if err == api.OK {
				list = append(list, s)
			}
		}
	}
	return list
}

// goDown takes the power away, and writes nothing; disk 0 works.
func goDown(t *testing.T, a *array.Array) {
	t.Helper()
	ok(t, "Fuse", a.Fuse(0))
	if a.Write(0, 0, "") != api.ErrPower || !a.Down() {
		t.Fatal("the power is there")
	}
}

// bitsOf are a number's bits, as Crash takes them.
func bitsOf(set int, many int) []bool {
	keep := make([]bool, many)
	for i := range keep {
		keep[i] = set&(1<<i) != 0
	}
	return keep
}
