package scan_test

import (
	"slices"
	"strings"
	"testing"

	"sheetpile/api"
	"sheetpile/frame"
	"sheetpile/scan"
)

// firsts are Seqs that a log of a few groups may begin with.
var firsts = []int{0, 1, 7, 255, 65534, 1<<31 - 2, maxSeq - 4}

func TestAllOfNothing(t *testing.T) { // P20.1, R3
	scans(t, "nothing", "", nil, 0)
	for _, s := range []string{"G", "junk", "\x00", "H", strings.Repeat("G", 100), strings.Repeat("\x00", 100), strings.Repeat("\xFF", 100), sealed(0, "")} {
		scans(t, "no group", s, nil, 0)
		scans(t, "no group, and one behind", s+logOf(t, groups(0, lists())), nil, 0)
	}
}

func TestAllOfWholeLogs(t *testing.T) { // P20.1, P20.3
	for _, first := range firsts {
		list := groups(first, lists())
		at := ends(t, list)
		for n := range len(list) + 1 {
			scans(t, "a whole log", logOf(t, list[:n]), list[:n], at[n])
		}
	}
}

func TestAllOfLongLogs(t *testing.T) { // P20.1, P20.3
	l := slices.Repeat(lists(), 500)
	list := groups(3, l)
	s := logOf(t, list)
	scans(t, "a long log", s, list, len(s))
	scans(t, "a long log without its last byte", s[:len(s)-1], list[:len(list)-1], ends(t, list)[len(list)-1])
}

func TestAllOfCutLogs(t *testing.T) { // P20.1, P20.3
	list := groups(7, lists())
	s, at := logOf(t, list), ends(t, list)
	whole := 0
	for n := range len(s) + 1 {
		if whole < len(list) && at[whole+1] <= n {
			whole++
		}
		scans(t, "a log that is cut", s[:n], list[:whole], at[whole])
	}
	if whole != len(list) {
		t.Errorf("only %d groups were whole", whole)
	}
}

func TestAllOfBytesBehind(t *testing.T) { // P20.1
	list := groups(4, lists())
	next := frame.Group{Seq: 9, Changes: lists()[0]}
	s := logOf(t, list)
	for _, behind := range []string{"\x00", "junk", "G", "GG", strings.Repeat("\x00", 1000), strings.Repeat("\xFF", 20), sealed(9, ""), sealed(9, "\x02\x01\x00k"), sealed(9, "\x01\x00\x00"), "\x00" + bytesOf(t, next), s[1:]} {
		scans(t, "bytes behind", s+behind, list, len(s))
		// What would follow is not read any more behind what is no group.
		scans(t, "bytes behind, and a group", s+behind+bytesOf(t, next), list, len(s))
	}
	scans(t, "the next group behind", s+bytesOf(t, next), append(list, next), len(s)+len(bytesOf(t, next)))
}

// A group that is changed anywhere ends the log ahead of it.
func TestAllOfAChangedGroup(t *testing.T) { // P20.1, P20.3
	list := groups(7, lists())
	s, at := logOf(t, list), ends(t, list)
	for n := range list {
		for place := at[n]; place < at[n+1]; place++ {
			for _, turned := range []byte{1, 2, 0x80, 0xFF} {
				x := []byte(s)
				x[place] ^= turned
				scans(t, "a group that is changed", string(x), list[:n], at[n])
			}
		}
		refused := s[:at[n]] + sealed(7+n, "\x01\x01\x00\n") + s[at[n+1]:]
		scans(t, "a group that is refused", refused, list[:n], at[n])
		scans(t, "a group that is left out", s[:at[n]]+s[at[n+1]:], left(list, n), size(t, left(list, n)))
	}
}

// left is what is scanned of groups without one of them: of the first one those
// behind it.
func left(list []frame.Group, without int) []frame.Group {
	if without == 0 {
		return list[1:]
	}
	return list[:without]
}

func size(t *testing.T, list []frame.Group) int {
	t.Helper()
	return len(logOf(t, list))
}

func TestAllOfSeqsByHand(t *testing.T) { // P20.1
	for _, x := range []struct {
		seqs []int
		want int
	}{
		{[]int{5}, 1},
		{[]int{5, 6, 7}, 3},
		{[]int{5, 5}, 1},
		{[]int{5, 5, 6}, 1},
		{[]int{5, 6, 6, 7}, 2},
		{[]int{5, 7}, 1},
		{[]int{5, 7, 6}, 1},
		{[]int{5, 6, 8, 9}, 2},
		{[]int{5, 4}, 1},
		{[]int{5, 4, 6}, 1},
		{[]int{5, 6, 5, 6, 7}, 2},
		{[]int{5, 6, 0, 1}, 2},
		{[]int{0, 0}, 1},
		{[]int{1, 0}, 1},
		{[]int{maxSeq}, 1},
		{[]int{maxSeq - 1, maxSeq}, 2},
		{[]int{maxSeq, 0}, 1},
		{[]int{maxSeq, maxSeq}, 1},
		{[]int{maxSeq, 1}, 1},
		{[]int{maxSeq - 1, maxSeq, 0, 1}, 2},
		{[]int{1<<31 - 1, 1 << 31, 1<<31 + 1}, 3},
		{[]int{65535, 65536}, 2},
		{[]int{255, 0}, 1},
		{[]int{65535, 0}, 1},
	} {
		list := withSeqs(x.seqs)
		scans(t, "Seqs", logOf(t, list), list[:x.want], size(t, list[:x.want]))
	}
}

// All short rows of a few Seqs are tried, near 0 and near the greatest one.
func TestAllOfSeqs(t *testing.T) { // P20.1
	rows := [][]int{nil}
	for from := 0; len(rows[from]) < 4; from++ {
		for _, seq := range []int{0, 1, 2, 3, maxSeq - 1, maxSeq} {
			rows = append(rows, append(slices.Clone(rows[from]), seq))
		}
	}
	for _, seqs := range rows {
		list := withSeqs(seqs)
		n := min(1, len(seqs))
		for n < len(seqs) && seqs[n] == seqs[n-1]+1 {
			n++
		}
		scans(t, "Seqs", logOf(t, list), list[:n], size(t, list[:n]))
	}
}

func withSeqs(seqs []int) []frame.Group {
	var list []frame.Group
	for i, seq := range seqs {
		list = append(list, frame.Group{Seq: seq, Changes: lists()[i%len(lists())]})
	}
	return list
}

func TestAllOfTwoLogs(t *testing.T) { // P20.1
	for _, first := range firsts {
		one := groups(first, lists()[:3])
		s := logOf(t, one)
		for _, second := range []int{0, 1, first, first + 1, first + 2, min(first+4, maxSeq-1), maxSeq - 1} {
			two := groups(second, lists()[3:])
			want := one
			if second == first+3 {
				want = append(slices.Clone(one), two...)
			}
			scans(t, "two logs", s+logOf(t, two), want, size(t, want))
		}
		two := groups(first+3, lists()[3:])
		both := append(slices.Clone(one), two...)
		scans(t, "a log that goes on", s+logOf(t, two)+s, both, size(t, both))
		scans(t, "the same log twice", s+s, one, len(s))
		scans(t, "the later log ahead", logOf(t, two)+s, two, size(t, two))
	}
}

func TestAllAnswersNewMemory(t *testing.T) { // R5, R6
	list := groups(7, lists())
	s := logOf(t, list)
	got, _ := scan.All(s)
	for _, g := range got {
		clear(g.Changes)
	}
	clear(got)
	scans(t, "behind a change of the answer", s, list, len(s))
	got, _ = scan.All(s)
	for i, g := range got {
		_ = append(g.Changes, api.Change{Key: "more"})
		if i+1 < len(got) && !slices.Equal(got[i+1].Changes, list[i+1].Changes) {
			t.Errorf("group %d shares memory with the one behind it", i)
		}
	}
}
