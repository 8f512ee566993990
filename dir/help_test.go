package dir_test

import (
	"hash/crc32"
	"slices"
	"strconv"
	"strings"
	"testing"

	"sheetpile/api"
	"sheetpile/dir"
)

var (
	maxKey   = strings.Repeat("\U0010FFFF", 64)
	maxValue = strings.Repeat("v", 1024)
)

// numbered are so many pairs, whose Keys rise.
func numbered(n int) []api.Pair {
	l := make([]api.Pair, n)
	for i := range l {
		l[i] = api.Pair{Key: "k" + strconv.Itoa(10000+i), Value: strings.Repeat("v", i%7)}
	}
	return l
}

// keyed are pairs of these Keys, each with a Value of its own.
func keyed(keys ...string) []api.Pair {
	l := make([]api.Pair, len(keys))
	for i, k := range keys {
		l[i] = api.Pair{Key: k, Value: strconv.Itoa(i)}
	}
	return l
}

// good are directories that may be: empty, short, long, and of Keys and Values
// at their bounds.
func good() [][]api.Pair {
	return [][]api.Pair{
		nil,
		{},
		{{Key: "a", Value: "1"}},
		{{Key: "a"}},
		{{Key: " "}, {Key: "  ", Value: "HINT"}, {Key: "!"}, {Key: "HINT"}, {Key: "~", Value: "\x00"}},
		{{Key: "a", Value: "same"}, {Key: "b", Value: "same"}, {Key: "c", Value: "same"}},
		{{Key: strings.Repeat("k", 64), Value: maxValue}, {Key: maxKey, Value: strings.Repeat("\xFF", 1024)}},
		keyed("B", "a", "a ", "a!", "aa", "ab", "b", "b0", "b00", "b1"),
		// Another order than that of the alphabet, and than that of UTF-16.
		keyed("Z", "a", "z", "é", "€", "\uFFFD", "\uFFFF", "\U00010000", "\U0010FFFF"),
		keyed("\u0080", "\u07FF", "\u0800", "\uD7FF", "\uE000"),
		numbered(2), numbered(63), numbered(64), numbered(65), numbered(127), numbered(128), numbered(129), numbered(1000),
	}
}

func badKeys() []string {
	return []string{"", "\x00", "\n", "\x1F", "\x7F", "a\x7F", "\x80", "\xFF", "a\xC3", "\xC0\x80", "\xED\xA0\x80", "\xF4\x90\x80\x80", strings.Repeat("k", 65), strings.Repeat("\U0010FFFF", 65), strings.Repeat("k", 70000)}
}

// bad are directories that may not be.
func bad() [][]api.Pair {
	l := [][]api.Pair{
		keyed("b", "a"),
		keyed("a", "a"),
		{{Key: "a", Value: "1"}, {Key: "a", Value: "1"}},
		keyed("a", "c", "b"),
		keyed("b", "a", "c"),
		keyed("a", "b", "b"),
		keyed("a", "b", "a"),
		keyed("aa", "a"),
		keyed("a", "Z"),
		keyed("é", "z"),
		keyed("\U00010000", "\uFFFF"),
		append(numbered(129), api.Pair{Key: "k10128"}),
		append(numbered(129), api.Pair{Key: "a"}),
		{{Key: "a", Value: strings.Repeat("v", 1025)}},
		{{Key: "a", Value: strings.Repeat("v", 70000)}},
		{{Key: "a"}, {Key: "b", Value: strings.Repeat("v", 1025)}},
		{{Key: "a", Value: strings.Repeat("v", 1025)}, {Key: "b"}},
	}
	for _, k := range badKeys() {
		alone := []api.Pair{{Key: k, Value: "v"}}
		l = append(l, alone, sorted(append(keyed("a", "l"), alone...)))
	}
	return l
}

func sorted(l []api.Pair) []api.Pair {
	slices.SortFunc(l, func(a, b api.Pair) int { return strings.Compare(a.Key, b.Key) })
	return l
}

// plain is a directory as a map is made of it, and back.
func plain(m map[string]string) []api.Pair {
	var l []api.Pair
	for k, v := range m {
		l = append(l, api.Pair{Key: k, Value: v})
	}
	return sorted(l)
}

func bytesOf(n, size int) string {
	b := make([]byte, size)
	for i := range b {
		b[i] = byte(n >> (8 * i))
	}
	return string(b)
}

func summed(s string) string {
	return s + bytesOf(int(crc32.Checksum([]byte(s), crc32.MakeTable(crc32.Castagnoli))), 4)
}

func text(s string) string { return bytesOf(len(s), 2) + s }

// hinted is the chapter's words: the bytes of pairs, whatever they are.
func hinted(l []api.Pair) string {
	s := "HINT"
	for _, p := range l {
		s += text(p.Key) + text(p.Value)
	}
	return summed(s)
}

// applies holds what Apply answers against want, twice.
func applies(t *testing.T, what string, l []api.Pair, changes []api.Change, want []api.Pair) {
	t.Helper()
	keptPairs, keptChanges := slices.Clone(l), slices.Clone(changes)
	for range 2 {
		if got := dir.Apply(l, changes); !slices.Equal(got, want) {
			t.Errorf("%s: Apply(%.60v, %.60v): %.60v, not %.60v", what, l, changes, got, want)
		}
	}
	if !slices.Equal(l, keptPairs) || !slices.Equal(changes, keptChanges) {
		t.Errorf("%s: Apply changed what it was handed", what)
	}
}

// gets holds what Get answers against want.
func gets(t *testing.T, what string, l []api.Pair, key string, want string, wantIs bool) {
	t.Helper()
	if v, is := dir.Get(l, key); v != want || is != wantIs {
		t.Errorf("%s: Get(%.60v, %q): %.60q, %v, not %.60q, %v", what, l, key, v, is, want, wantIs)
	}
}

// reads holds what Read answers of s against want; with an error that is
// nothing.
func reads(t *testing.T, what string, s string, want []api.Pair, wantErr api.Errno) {
	t.Helper()
	for range 2 {
		if l, err := dir.Read(s); !slices.Equal(l, want) || err != wantErr {
			t.Errorf("%s: Read(%.60q): %.60v, %d, not %.60v, %d", what, s, l, err, want, wantErr)
		}
	}
}
