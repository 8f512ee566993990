package frame_test

import (
	"math"
	"slices"
	"testing"

	"sheetpile/api"
	"sheetpile/frame"
)

func TestWriteByHand(t *testing.T) { // P19.1
	for _, x := range []struct {
		g    frame.Group
		want string
	}{
		{frame.Group{Changes: []api.Change{{Key: "k", Gone: true}}}, "G\x00\x00\x00\x00\x04\x00\x00\x00\x01\x01\x00k"},
		{frame.Group{Changes: []api.Change{{Key: "k"}}}, "G\x00\x00\x00\x00\x06\x00\x00\x00\x00\x01\x00k\x00\x00"},
		{frame.Group{Seq: 0x04030201, Changes: []api.Change{{Key: "é", Value: "\x00\xFF"}}}, "G\x01\x02\x03\x04\x09\x00\x00\x00\x00\x02\x00é\x02\x00\x00\xFF"},
		{frame.Group{Seq: 258, Changes: []api.Change{{Key: "a", Value: "one"}, {Key: "b", Gone: true}, {Key: "c"}}}, "G\x02\x01\x00\x00\x13\x00\x00\x00\x00\x01\x00a\x03\x00one\x01\x01\x00b\x00\x01\x00c\x00\x00"},
		{frame.Group{Seq: maxSeq, Changes: []api.Change{{Key: "b", Gone: true}, {Key: "a", Gone: true}, {Key: "b", Gone: true}}}, "G\xFF\xFF\xFF\xFF\x0C\x00\x00\x00\x01\x01\x00b\x01\x01\x00a\x01\x01\x00b"},
	} {
		s, err := frame.Write(x.g)
		if s != summed(x.want) || err != api.OK {
			t.Errorf("Write(%v): %q, %d", x.g, s, err)
		}
	}
	s, _ := frame.Write(frame.Group{Changes: []api.Change{{Key: "k", Gone: true}}})
	if len(s) != 17 {
		t.Errorf("one key that is Gone: %d bytes", len(s))
	}
}

func TestWriteAndRead(t *testing.T) { // P19.1, P19.2, P19.3, R5, R6
	for _, g := range someGroups() {
		kept := slices.Clone(g.Changes)
		for range 2 {
			s, err := frame.Write(g)
			if s != written(g) || err != api.OK {
				t.Errorf("Write(%.60v): %.60q, %d", g, s, err)
			}
			reads(t, "what was written", s, reading{g: g})
		}
		if !slices.Equal(g.Changes, kept) {
			t.Errorf("Write(%.60v) changed what it was handed", g)
		}
	}
}

func TestWriteOfSeqs(t *testing.T) { // P19.1, R2, R3
	good := many(3)
	for _, seq := range []int{0, 1, 1<<31 - 1, 1 << 31, maxSeq - 1, maxSeq} {
		g := frame.Group{Seq: seq, Changes: good}
		if s, err := frame.Write(g); s != written(g) || err != api.OK {
			t.Errorf("Seq %d: %q, %d", seq, s, err)
		}
	}
	for _, seq := range []int{-1, -2, -maxSeq, -1 << 32, math.MinInt, maxSeq + 1, maxSeq + 2, 1 << 40, 1 << 56, math.MaxInt} {
		if s, err := frame.Write(frame.Group{Seq: seq, Changes: good}); s != "" || err != api.ErrArg {
			t.Errorf("Seq %d: %q, %d", seq, s, err)
		}
	}
}

// Whatever the Seq is, an error of the changes goes ahead of its own.
func TestWriteTellsTheChangesFirst(t *testing.T) { // P19.1, R2, R3
	lists := [][]api.Change{nil, {}, many(65), slices.Repeat([]api.Change{{}}, 65)}
	for _, fault := range someFaults() {
		lists = append(lists, []api.Change{fault}, []api.Change{{Key: "a"}, fault}, []api.Change{fault, {Key: "a"}})
	}
	for _, l := range lists {
		for _, seq := range []int{math.MinInt, -1, 0, 1, maxSeq, maxSeq + 1, math.MaxInt} {
			want := faultOfAll(l)
			if s, err := frame.Write(frame.Group{Seq: seq, Changes: l}); s != "" || err != want {
				t.Errorf("Seq %d, %.60v: %.60q, %d, not %d", seq, l, s, err, want)
			}
		}
	}
}
