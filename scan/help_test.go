package scan_test

import (
	"hash/crc32"
	"slices"
	"strings"
	"testing"

	"sheetpile/api"
	"sheetpile/frame"
	"sheetpile/scan"
)

// maxSeq is the greatest number that a group may have.
const maxSeq = 1<<32 - 1

// lists are the changes of several groups, short and long ones.
func lists() [][]api.Change {
	return [][]api.Change{
		{{Key: "a", Value: "1"}},
		{{Key: "b", Value: "2"}, {Key: "a", Gone: true}},
		{{Key: "c"}},
		{{Key: "é", Value: "G\x00\xFF"}, {Key: "c", Value: strings.Repeat("v", 300)}},
		{{Key: "G", Gone: true}},
	}
}

// groups have these changes, and Seqs from first on.
func groups(first int, l [][]api.Change) []frame.Group {
	var list []frame.Group
	for i, changes := range l {
		list = append(list, frame.Group{Seq: first + i, Changes: changes})
	}
	return list
}

func bytesOf(t *testing.T, g frame.Group) string {
	t.Helper()
	s, err := frame.Write(g)
	if err != api.OK {
		t.Fatalf("frame.Write(%.60v): %d", g, err)
	}
	return s
}

// logOf is the bytes of groups, one behind the other, whatever their Seqs are.
func logOf(t *testing.T, list []frame.Group) string {
	t.Helper()
	var s strings.Builder
	for _, g := range list {
		s.WriteString(bytesOf(t, g))
	}
	return s.String()
}

// ends are the places behind none of the groups, the first one, and so on.
func ends(t *testing.T, list []frame.Group) []int {
	t.Helper()
	places := []int{0}
	for i, g := range list {
		places = append(places, places[i]+len(bytesOf(t, g)))
	}
	return places
}

// sealed is a group's bytes with the right sum, be its changes any or none.
func sealed(seq int, changes string) string {
	number := func(n int) string {
		return string([]byte{byte(n), byte(n >> 8), byte(n >> 16), byte(n >> 24)})
	}
	s := "G" + number(seq) + number(len(changes)) + changes
	return s + number(int(crc32.Checksum([]byte(s), crc32.MakeTable(crc32.Castagnoli))))
}

func same(a frame.Group, b frame.Group) bool {
	return a.Seq == b.Seq && slices.Equal(a.Changes, b.Changes)
}

// scans holds what All answers of s against want, twice.
func scans(t *testing.T, what string, s string, want []frame.Group, bytes int) {
	t.Helper()
	for range 2 {
		got, n := scan.All(s)
		if !slices.EqualFunc(got, want, same) || n != bytes {
			t.Errorf("%s: All(%.60q): %.80v, %d, not %.80v, %d", what, s, got, n, want, bytes)
		}
	}
}

// writes holds what Write answers against want; with an error that is nothing.
func writes(t *testing.T, what string, first int, l [][]api.Change, want string, wantErr api.Errno) {
	t.Helper()
	kept := make([][]api.Change, len(l))
	for i := range l {
		kept[i] = slices.Clone(l[i])
	}
	for range 2 {
		if s, err := scan.Write(first, l); s != want || err != wantErr {
			t.Errorf("%s: Write(%d, %.60v): %.60q, %d, not %.60q, %d", what, first, l, s, err, want, wantErr)
		}
	}
	if !slices.EqualFunc(l, kept, slices.Equal[[]api.Change]) {
		t.Errorf("%s: Write(%d) changed what it was handed", what, first)
	}
}
