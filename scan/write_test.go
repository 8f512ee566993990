package scan_test

import (
	"math"
	"slices"
	"strings"
	"testing"

	"sheetpile/api"
	"sheetpile/frame"
	"sheetpile/scan"
)

func TestWriteByHand(t *testing.T) { // P20.2
	l := [][]api.Change{{{Key: "k", Gone: true}}, {{Key: "k", Value: "v"}}}
	want := sealed(258, "\x01\x01\x00k") + sealed(259, "\x00\x01\x00k\x01\x00v")
	writes(t, "two groups", 258, l, want, api.OK)
}

func TestWriteOfNoGroups(t *testing.T) { // P20.2
	for _, first := range []int{math.MinInt, -1, 0, 1, maxSeq, maxSeq + 1, math.MaxInt} {
		writes(t, "nil", first, nil, "", api.OK)
		writes(t, "none", first, [][]api.Change{}, "", api.OK)
	}
}

func TestWrite(t *testing.T) { // P20.2, P20.3, R5, R6
	for _, first := range firsts {
		for n := range len(lists()) + 1 {
			list := groups(first, lists()[:n])
			s := logOf(t, list)
			writes(t, "groups", first, lists()[:n], s, api.OK)
			scans(t, "what was written", s, list, len(s))
		}
	}
	l := slices.Repeat(lists(), 400)
	writes(t, "many groups", 9, l, logOf(t, groups(9, l)), api.OK)
}

func TestWriteOfSeqs(t *testing.T) { // P20.2, R3
	one, two, three := lists()[:1], lists()[:2], lists()[:3]
	for _, first := range []int{math.MinInt, -1 << 32, -2, -1, maxSeq + 1, maxSeq + 2, 1 << 40, math.MaxInt - 1, math.MaxInt} {
		writes(t, "no Seq", first, one, "", api.ErrArg)
		writes(t, "no Seq", first, two, "", api.ErrArg)
		writes(t, "no Seq", first, three, "", api.ErrArg)
	}
	writes(t, "the greatest one", maxSeq, one, logOf(t, groups(maxSeq, one)), api.OK)
	writes(t, "one behind it", maxSeq, two, "", api.ErrArg)
	writes(t, "up to the greatest one", maxSeq-1, two, logOf(t, groups(maxSeq-1, two)), api.OK)
	writes(t, "one behind it", maxSeq-1, three, "", api.ErrArg)
	writes(t, "up to the greatest one", maxSeq-2, three, logOf(t, groups(maxSeq-2, three)), api.OK)
}

// faults are changes that frame.Write refuses, and its error.
func faults() []struct {
	l   []api.Change
	err api.Errno
} {
	return []struct {
		l   []api.Change
		err api.Errno
	}{
		{nil, api.ErrArg},
		{[]api.Change{{Key: "a", Value: "v", Gone: true}}, api.ErrArg},
		{[]api.Change{{Key: ""}}, api.ErrKey},
		{[]api.Change{{Key: "a"}, {Key: "\n"}}, api.ErrKey},
		{[]api.Change{{Key: "a", Value: strings.Repeat("v", 1025)}}, api.ErrBig},
		{slices.Repeat([]api.Change{{Key: "a"}}, 65), api.ErrBig},
	}
}

func TestWriteOfFaults(t *testing.T) { // P20.2, R2, R3
	for _, x := range faults() {
		for at := range lists() {
			l := lists()
			l[at] = x.l
			writes(t, "a fault", 7, l, "", x.err)
			// A group's changes go ahead of its Seq, but not those of a group behind it.
			ahead := api.ErrArg
			if at == 0 {
				ahead = x.err
			}
			writes(t, "a fault, and no Seq", -1, l, "", ahead)
			writes(t, "a fault, and no Seq", maxSeq+1, l, "", ahead)
			writes(t, "a fault, and no Seq", math.MaxInt, l, "", ahead)
			beyond := api.ErrArg
			if at <= 2 {
				beyond = x.err
			}
			writes(t, "a fault, and no Seq from the third group on", maxSeq-1, l, "", beyond)
		}
		writes(t, "a fault alone", 0, [][]api.Change{x.l}, "", x.err)
	}
}

func TestWriteTellsTheFirstError(t *testing.T) { // P20.2, R2, R3
	for _, x := range faults() {
		for _, y := range faults() {
			l := lists()
			l[1], l[4] = x.l, y.l
			writes(t, "two faults", 0, l, "", x.err)
			writes(t, "two faults alone", 0, [][]api.Change{x.l, y.l}, "", x.err)
		}
	}
}

// Whatever a text is, what is scanned of it is written again as it was.
func TestWriteOfWhatWasScanned(t *testing.T) { // P20.3
	list := groups(maxSeq-4, lists())
	s := logOf(t, list)
	texts := []string{"", s + "junk", s + s, "junk" + s, logOf(t, []frame.Group{list[2], list[3], list[1]})}
	for n := range s {
		texts = append(texts, s[:n], s[n:])
	}
	for _, text := range texts {
		got, n := scan.All(text)
		if n < 0 || n > len(text) {
			t.Fatalf("All(%.60q): %d bytes", text, n)
		}
		first := 0
		var l [][]api.Change
		for i, g := range got {
			if i == 0 {
				first = g.Seq
			}
			l = append(l, g.Changes)
		}
		writes(t, "what was scanned", first, l, text[:n], api.OK)
	}
}
