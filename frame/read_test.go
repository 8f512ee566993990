package frame_test

import (
	"slices"
	"strings"
	"testing"

	"sheetpile/api"
	"sheetpile/frame"
)

// few is a group that has both kinds of changes, and is short.
var few = frame.Group{Seq: 258, Changes: []api.Change{{Key: "a", Value: "one"}, {Key: "b", Gone: true}, {Key: "c"}}}

// resealed puts another length into a group's bytes, and the sum of just so
// many bytes behind them.
func resealed(s string, length int) string {
	told := s[:5] + bytesOf(length, 4) + s[9:]
	end := 9 + length
	if end > len(told) {
		return told
	}
	return summed(told[:end]) + told[end:]
}

func TestReadOfOtherBeginnings(t *testing.T) { // P19.2, R1, R3
	fails(t, "nothing", "", api.ErrCut)
	good := written(few)
	for b := range 256 {
		if b == 'G' {
			continue
		}
		first := bytesOf(b, 1)
		fails(t, "a byte alone", first, api.ErrForm)
		fails(t, "a byte and a few", first+"G", api.ErrForm)
		fails(t, "instead of the first byte", first+good[1:], api.ErrForm)
		fails(t, "with the right sum", summed(first+good[1:len(good)-4]), api.ErrForm)
		fails(t, "ahead of a group", first+good, api.ErrForm)
		fails(t, "cut, and of the greatest length", first+strings.Repeat("\xFF", 8), api.ErrForm)
	}
	for n := 1; n < 13; n++ {
		fails(t, "no room for a group", strings.Repeat("G", n), api.ErrCut)
		fails(t, "no room for a group", "G"+strings.Repeat("\x00", n-1), api.ErrCut)
	}
	fails(t, "a sum of zeros", "G"+strings.Repeat("\x00", 12), api.ErrSum)
}

func TestReadOfCut(t *testing.T) { // P19.2, P19.3, R3
	for _, g := range someGroups() {
		s := written(g)
		step := 1 + len(s)/500
		for n := 0; n < len(s); n += step {
			fails(t, "a group without its end", s[:n], api.ErrCut)
		}
		for n := max(0, len(s)-20); n < len(s); n++ {
			fails(t, "a group without its last bytes", s[:n], api.ErrCut)
		}
	}
}

func TestReadOfBytesBehind(t *testing.T) { // P19.2, P19.3
	for _, g := range someGroups() {
		s := written(g)
		for _, behind := range []string{"a", "G", "\x00", "\xFF\xFF\xFF\xFF", "GG", s, s + s, s[:len(s)-1], s[1:], written(few), strings.Repeat("\x00", 70000)} {
			reads(t, "bytes behind", s+behind, reading{g: g, behind: behind})
		}
	}
}

func TestReadOfEachByteChanged(t *testing.T) { // P19.2, R1, R3
	for _, g := range []frame.Group{few, {Changes: []api.Change{{Key: "k", Gone: true}}}, {Seq: maxSeq, Changes: []api.Change{{Key: "é", Value: strings.Repeat("G", 300)}}}} {
		s := written(g)
		length := len(s) - 13
		for at := range s {
			for b := range 256 {
				if byte(b) == s[at] {
					continue
				}
				x := s[:at] + bytesOf(b, 1) + s[at+1:]
				want := api.ErrSum
				if at == 0 {
					want = api.ErrForm
				}
				if at >= 5 && at < 9 && numberOf(x[5:9]) > length {
					want = api.ErrCut
				}
				fails(t, "a byte changed", x, want)
				reads(t, "a byte changed, and bytes behind", x+s+s, expected(x+s+s))
			}
		}
	}
}

// Each byte of the changes is put to each value, and the sum is the right one:
// what is read is what the bytes say.
func TestReadOfEachByteSealed(t *testing.T) { // P19.2, R1, R3
	goods := 0
	for _, l := range [][]api.Change{few.Changes, {{Key: "é€", Value: "12"}}, {{Key: "k", Gone: true}, {Key: "l", Gone: true}}, many(5)} {
		s := body(l)
		for at := range s {
			for b := range 256 {
				x := framed(7, s[:at]+bytesOf(b, 1)+s[at+1:])
				want := expected(x)
				reads(t, "a byte of the changes", x, want)
				if want.err == api.OK {
					goods++
				}
			}
		}
	}
	if goods < 100 {
		t.Errorf("only %d of them are groups", goods)
	}
}

func TestReadOfLengths(t *testing.T) { // P19.2, R1, R3
	s := written(few)
	length := len(s) - 13
	for _, other := range []int{length + 1, length + 2, length + 255, 65536, 1 << 24, 1<<31 - 1, 1 << 31, maxSeq - 13, maxSeq - 4, maxSeq - 1, maxSeq} {
		fails(t, "a length that is too great", s[:5]+bytesOf(other, 4)+s[9:], api.ErrCut)
	}
	for _, other := range []int{length + 1, length + 2, length + 255} {
		fails(t, "a length that is too great for its sum", s[:5]+bytesOf(other, 4)+s[9:]+strings.Repeat("\x00", 300), api.ErrSum)
		fails(t, "a length one byte too great", s[:5]+bytesOf(other, 4)+s[9:]+strings.Repeat("\x00", other-length-1), api.ErrCut)
	}
	for other := range length {
		fails(t, "a length that is too small", s[:5]+bytesOf(other, 4)+s[9:], api.ErrSum)
	}
	for other := range length + 1 {
		x := resealed(s, other)
		want := reading{err: api.ErrForm}
		// The changes end there, so a group of fewer of them does.
		for n := 1; n <= len(few.Changes); n++ {
			if other == len(body(few.Changes[:n])) {
				want = reading{g: frame.Group{Seq: few.Seq, Changes: few.Changes[:n]}, behind: s[9+other:]}
			}
		}
		reads(t, "another length with its sum", x, want)
	}
}

func TestReadOfWhatAreNoChanges(t *testing.T) { // P19.2, R3
	good := body(few.Changes)
	fails(t, "no change", framed(0, ""), api.ErrForm)
	for b := 2; b < 256; b++ {
		first := bytesOf(b, 1)
		fails(t, "another byte ahead of a change", framed(1, first+good[1:]), api.ErrForm)
		fails(t, "another byte ahead of a second one", framed(1, good+first+good[1:]), api.ErrForm)
		fails(t, "another byte ahead of one without a value", framed(1, first+"\x01\x00k"), api.ErrForm)
	}
	for _, l := range [][]api.Change{few.Changes[:1], few.Changes[1:2], {{Key: "é", Value: strings.Repeat("v", 300)}}} {
		s := body(l)
		for n := 1; n < len(s); n++ {
			fails(t, "a change that is cut", framed(2, s[:n]), api.ErrForm)
			fails(t, "a second change that is cut", framed(2, good+s[:n]), api.ErrForm)
		}
	}
	for _, left := range []string{"\x00", "\x01", "\x02", "\xFF", "G", "\x00\x00", "\x01\x00", "\x00\x01\x00", "\x01\x01\x00", "\x00\x01\x00k", "\x00\x01\x00k\x01\x00", "left over"} {
		fails(t, "bytes left over", framed(3, good+left), api.ErrForm)
	}
}

func TestReadOfChangesThatAreRefused(t *testing.T) { // P19.2, R3
	for _, n := range []int{65, 66, 128, 1000, 20000} {
		fails(t, "too many changes", framed(0, body(many(n))), api.ErrForm)
		fails(t, "too many changes, and what is none", framed(0, body(many(n))+"\x07"), api.ErrForm)
	}
	keys := []string{"", "\x7F", "a\xFF", "\xC0\x80", "\xED\xA0\x80", strings.Repeat("k", 65), strings.Repeat("é", 65), strings.Repeat("k", 65535)}
	for b := range 32 {
		keys = append(keys, bytesOf(b, 1), "a"+bytesOf(b, 1))
	}
	refused := []api.Change{{Key: "k", Value: strings.Repeat("v", 1025)}, {Key: "k", Value: strings.Repeat("v", 65535)}}
	for _, k := range keys {
		refused = append(refused, api.Change{Key: k}, api.Change{Key: k, Value: "v"}, api.Change{Key: k, Gone: true})
	}
	for _, c := range refused {
		fails(t, "a change that is refused", framed(0, body([]api.Change{c})), api.ErrForm)
		fails(t, "a second one", framed(0, body([]api.Change{few.Changes[0], c})), api.ErrForm)
		fails(t, "the last one of 64", framed(0, body(append(many(63), c))), api.ErrForm)
	}
}

// All bytes of a few kinds, up to two changes' length: what is read is what
// they say, and is written as it was.
func TestReadOfAllShortBodies(t *testing.T) { // P19.2, P19.3, R1, R3
	bodies, from := []string{""}, 0
	for range 8 {
		last := bodies[from:]
		from = len(bodies)
		for _, s := range last {
			for _, b := range []string{"\x00", "\x01", "\x02", "k"} {
				bodies = append(bodies, s+b)
			}
		}
	}
	goods := 0
	for _, s := range bodies {
		x := framed(9, s)
		want := expected(x)
		reads(t, "a short body", x, want)
		if want.err != api.OK {
			continue
		}
		goods++
		g, _, _ := frame.Read(x)
		if again, err := frame.Write(g); again != x || err != api.OK {
			t.Errorf("Write(%v): %q, %d, not %q", g, again, err, x)
		}
	}
	if goods < 10 {
		t.Errorf("only %d of %d are groups", goods, len(bodies))
	}
}

func TestReadAnswersNewMemory(t *testing.T) { // R5, R6
	s := written(few)
	g, _, _ := frame.Read(s)
	clear(g.Changes)
	reads(t, "behind a change of the answer", s, reading{g: few})
	h, _, _ := frame.Read(s + s)
	slices.Reverse(h.Changes)
	reads(t, "behind a change of the answer", s+s, reading{g: few, behind: s})
}
