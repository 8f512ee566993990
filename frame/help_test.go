package frame_test

import (
	"hash/crc32"
	"slices"
	"strings"
	"testing"
	"unicode/utf8"

	"sheetpile/api"
	"sheetpile/frame"
)

// maxSeq is the greatest number that a group may have.
const maxSeq = 1<<32 - 1

// bytesOf is a number's lowest bytes, the lowest one first.
func bytesOf(n, size int) string {
	b := make([]byte, size)
	for i := range b {
		b[i] = byte(n >> (8 * i))
	}
	return string(b)
}

// numberOf is the other way.
func numberOf(s string) int {
	n := 0
	for i := range len(s) {
		n += int(s[i]) << (8 * i)
	}
	return n
}

func sumOf(s string) string {
	return bytesOf(int(crc32.Checksum([]byte(s), crc32.MakeTable(crc32.Castagnoli))), 4)
}

func summed(s string) string { return s + sumOf(s) }

// body is the chapter's words: the bytes of changes, whatever they are.
func body(l []api.Change) string {
	var s strings.Builder
	for _, c := range l {
		if c.Gone {
			s.WriteString("\x01" + bytesOf(len(c.Key), 2) + c.Key)
		} else {
			s.WriteString("\x00" + bytesOf(len(c.Key), 2) + c.Key + bytesOf(len(c.Value), 2) + c.Value)
		}
	}
	return s.String()
}

// framed has the right sum, and the length of these bytes, be they changes or
// not.
func framed(seq int, bytes string) string {
	return summed("G" + bytesOf(seq, 4) + bytesOf(len(bytes), 4) + bytes)
}

func written(g frame.Group) string { return framed(g.Seq, body(g.Changes)) }

// faultOf is the chapter's words: what is wrong with one change.
func faultOf(c api.Change) api.Errno {
	isControl := func(r rune) bool { return r < 32 || r == 127 }
	switch {
	case c.Key == "", !utf8.ValidString(c.Key), utf8.RuneCountInString(c.Key) > 64, strings.ContainsFunc(c.Key, isControl):
		return api.ErrKey
	case len(c.Value) > 1024:
		return api.ErrBig
	case c.Gone && c.Value != "":
		return api.ErrArg
	}
	return api.OK
}

// faultOfAll is the same of changes together.
func faultOfAll(l []api.Change) api.Errno {
	if len(l) > 64 {
		return api.ErrBig
	}
	for _, c := range l {
		if err := faultOf(c); err != api.OK {
			return err
		}
	}
	if len(l) == 0 {
		return api.ErrArg
	}
	return api.OK
}

// changesIn tells by places whether bytes are changes, one behind the other,
// and which.
func changesIn(s string) ([]api.Change, bool) {
	var l []api.Change
	at := 0
	text := func() (string, bool) {
		if len(s)-at < 2 {
			return "", false
		}
		from := at + 2
		to := from + numberOf(s[at:from])
		if to > len(s) {
			return "", false
		}
		at = to
		return s[from:to], true
	}
	for at < len(s) {
		kind := s[at]
		at++
		k, isKey := text()
		if kind > 1 || !isKey {
			return nil, false
		}
		if kind == 1 {
			l = append(l, api.Change{Key: k, Gone: true})
			continue
		}
		v, isValue := text()
		if !isValue {
			return nil, false
		}
		l = append(l, api.Change{Key: k, Value: v})
	}
	return l, true
}

// reading is what Read answers.
type reading struct {
	g      frame.Group
	behind string
	err    api.Errno
}

// expected is the chapter's words: what is to be read of s.
func expected(s string) reading {
	if s == "" {
		return reading{err: api.ErrCut}
	}
	if s[0] != 'G' {
		return reading{err: api.ErrForm}
	}
	if len(s) < 9 || len(s) < 13+numberOf(s[5:9]) {
		return reading{err: api.ErrCut}
	}
	end := 9 + numberOf(s[5:9])
	if s[end:end+4] != sumOf(s[:end]) {
		return reading{err: api.ErrSum}
	}
	l, is := changesIn(s[9:end])
	if !is || faultOfAll(l) != api.OK {
		return reading{err: api.ErrForm}
	}
	return reading{g: frame.Group{Seq: numberOf(s[1:5]), Changes: l}, behind: s[end+4:]}
}

func same(a frame.Group, b frame.Group) bool {
	return a.Seq == b.Seq && slices.Equal(a.Changes, b.Changes)
}

// reads holds what Read answers of s against want.
func reads(t *testing.T, what string, s string, want reading) {
	t.Helper()
	g, behind, err := frame.Read(s)
	if !same(g, want.g) || behind != want.behind || err != want.err {
		t.Errorf("%s: Read(%.60q): %.60v, %.60q, %d, not %.60v, %.60q, %d", what, s, g, behind, err, want.g, want.behind, want.err)
	}
}

// fails is that Read tells an error, and nothing else.
func fails(t *testing.T, what string, s string, want api.Errno) {
	t.Helper()
	reads(t, what, s, reading{err: want})
}

// checks holds what Check and Write answer of changes against want.
func checks(t *testing.T, what string, l []api.Change, want api.Errno) {
	t.Helper()
	kept := slices.Clone(l)
	if err := frame.Check(l); err != want {
		t.Errorf("%s: Check(%.60v): %d, not %d", what, l, err, want)
	}
	wantBytes := ""
	if want == api.OK {
		wantBytes = written(frame.Group{Seq: 3, Changes: l})
	}
	if s, err := frame.Write(frame.Group{Seq: 3, Changes: l}); s != wantBytes || err != want {
		t.Errorf("%s: Write(%.60v): %.60q, %d, not %d", what, l, s, err, want)
	}
	if !slices.Equal(l, kept) {
		t.Errorf("%s: the changes are others than they were", what)
	}
}

// many are so many changes, all of them good, put ones and Gone ones.
func many(n int) []api.Change {
	l := make([]api.Change, n)
	for i := range l {
		k := "k" + bytesOf('0'+i%64, 1)
		l[i] = api.Change{Key: k, Gone: true}
		if i%3 != 1 {
			l[i] = api.Change{Key: k, Value: strings.Repeat("v", i%5)}
		}
	}
	return l
}

// allBytes has each byte once.
func allBytes() string {
	b := make([]byte, 256)
	for i := range b {
		b[i] = byte(i)
	}
	return string(b)
}

// someGroups have each number and each length at its bounds, and between.
func someGroups() []frame.Group {
	lists := [][]api.Change{
		{{Key: "k", Gone: true}},
		{{Key: "k"}},
		{{Key: "k", Value: "v"}},
		{{Key: "a", Value: "one"}, {Key: "b", Gone: true}, {Key: "c"}},
		{{Key: "k", Value: "1"}, {Key: "k", Gone: true}, {Key: "k", Value: "2"}, {Key: "k", Value: "2"}},
		{{Key: "G", Value: "G\x00\x00\x00\x00"}, {Key: "GG", Gone: true}},
		{{Key: strings.Repeat("\U0010FFFF", 64), Value: strings.Repeat("\xFF", 1024)}, {Key: strings.Repeat("\U00010000", 64), Gone: true}},
		{{Key: "é€ \uFFFD~", Value: allBytes()}, {Key: " ", Value: strings.Repeat("\x00", 256)}},
		many(2),
		many(63),
		many(64),
		slices.Repeat([]api.Change{{Key: strings.Repeat("\uFFFF", 64), Value: strings.Repeat("G", 1024)}}, 64),
	}
	var groups []frame.Group
	for _, l := range lists {
		for _, seq := range []int{0, 1, 255, 256, 0x04030201, 1<<31 - 1, 1 << 31, maxSeq - 1, maxSeq} {
			groups = append(groups, frame.Group{Seq: seq, Changes: l})
		}
	}
	return groups
}

// someFaults are changes that are refused, each by another error, also by two
// of them.
func someFaults() []api.Change {
	return []api.Change{
		{},
		{Gone: true},
		{Key: "\n", Value: "v"},
		{Key: strings.Repeat("k", 65)},
		{Key: "a\xFF", Value: strings.Repeat("v", 1025)},
		{Key: "a", Value: strings.Repeat("v", 1025)},
		{Key: "a", Value: strings.Repeat("v", 1025), Gone: true},
		{Key: "a", Value: "v", Gone: true},
	}
}
