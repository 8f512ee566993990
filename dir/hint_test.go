package dir_test

import (
	"slices"
	"strings"
	"testing"

	"sheetpile/api"
	"sheetpile/dir"
)

func TestCompact(t *testing.T) { // P21.2
	for _, l := range good() {
		kept := slices.Clone(l)
		for range 2 {
			list := dir.Compact(l)
			at := 0
			for i, changes := range list {
				if want := min(64, len(l)-at); len(changes) != want || want == 0 {
					t.Fatalf("%.60v: list %d has %d changes, not %d", l, i, len(changes), want)
				}
				for _, c := range changes {
					if want := (api.Change{Key: l[at].Key, Value: l[at].Value}); c != want {
						t.Errorf("%.60v: change %d is %.60v, not %.60v", l, at, c, want)
					}
					at++
				}
			}
			if at != len(l) {
				t.Errorf("%.60v: %d changes in all", l, at)
			}
		}
		if !slices.Equal(l, kept) {
			t.Errorf("%.60v is another one than it was", l)
		}
	}
	for _, l := range bad() {
		if list := dir.Compact(l); len(list) != 0 {
			t.Errorf("%.60v: %.60v", l, list)
		}
	}
}

func TestCompactLengths(t *testing.T) { // P21.2
	for n, want := range map[int][]int{0: nil, 1: {1}, 2: {2}, 63: {63}, 64: {64}, 65: {64, 1}, 127: {64, 63}, 128: {64, 64}, 129: {64, 64, 1}, 192: {64, 64, 64}} {
		var lengths []int
		for _, changes := range dir.Compact(numbered(n)) {
			lengths = append(lengths, len(changes))
		}
		if !slices.Equal(lengths, want) {
			t.Errorf("%d pairs: %v, not %v", n, lengths, want)
		}
	}
}

func TestCompactAnswersNewMemory(t *testing.T) { // R5
	l := numbered(130)
	list := dir.Compact(l)
	last := slices.Clone(list[2])
	clear(list[0])
	_ = append(list[0], api.Change{Key: "more"})
	clear(list[1])
	_ = append(list[1], api.Change{Key: "more"})
	if !slices.Equal(list[2], last) || !slices.Equal(l, numbered(130)) {
		t.Error("a list shares memory with another one")
	}
}

func TestHint(t *testing.T) { // P21.3
	for _, l := range good() {
		kept := slices.Clone(l)
		for range 2 {
			if s, err := dir.Hint(l); s != hinted(l) || err != api.OK {
				t.Errorf("Hint(%.60v): %.60q, %d", l, s, err)
			}
		}
		if !slices.Equal(l, kept) {
			t.Errorf("%.60v is another one than it was", l)
		}
	}
	for _, l := range bad() {
		if s, err := dir.Hint(l); s != "" || err != api.ErrArg {
			t.Errorf("Hint(%.60v): %.60q, %d", l, s, err)
		}
	}
}

func TestHintByHand(t *testing.T) { // P21.3
	for _, x := range []struct {
		l    []api.Pair
		want string
	}{
		{nil, "HINT\xE6\x42\x83\xD2"},
		{[]api.Pair{{Key: "a", Value: "1"}, {Key: "b"}}, "HINT\x01\x00a\x01\x001\x01\x00b\x00\x00\x5C\x38\xA5\x3B"},
	} {
		if s, err := dir.Hint(x.l); s != x.want || err != api.OK {
			t.Errorf("Hint(%v): %q, %d", x.l, s, err)
		}
		reads(t, "by hand", x.want, x.l, api.OK)
	}
}

func TestReadOfBeginsThatAreNone(t *testing.T) { // P21.3, R2
	for _, s := range []string{"", "H", "HINT", "HINT\x00", "HINT\x00\x00", "HINT\x00\x00\x00", "\x00", "HIN", "xxxxxxx"} {
		reads(t, "too short", s, nil, api.ErrForm)
	}
	whole := hinted(keyed("a", "b"))
	for n := range 8 {
		reads(t, "too short", whole[:n], nil, api.ErrForm)
	}
	for _, begin := range []string{"hint", "HINt", "HINX", "GINT", "H\x00NT", "TNIH", "\x00INT", "CONF", " HINT"} {
		reads(t, "another begin", begin+whole[4:], nil, api.ErrForm)
		reads(t, "another begin, the right sum", summed(begin+whole[4:len(whole)-4]), nil, api.ErrForm)
	}
	reads(t, "a byte ahead", "\x00"+whole, nil, api.ErrForm)
	reads(t, "eight other bytes", strings.Repeat("\x00", 8), nil, api.ErrForm)
	reads(t, "eight bytes, and no sum", "HINT\x00\x00\x00\x00", nil, api.ErrSum)
}

func TestReadOfHintsThatAreCut(t *testing.T) { // P21.3
	for _, l := range [][]api.Pair{nil, {{Key: "a"}}, keyed("a", "b", "c"), numbered(65)} {
		s := hinted(l)
		for n := range len(s) {
			want := api.ErrSum
			if n < 8 {
				want = api.ErrForm
			}
			reads(t, "cut", s[:n], nil, want)
		}
		for _, behind := range []string{"\x00", "a", "\x00\x00", "\x00\x00\x00\x00", "HINT", s, s[4:]} {
			reads(t, "bytes behind", s+behind, nil, api.ErrSum)
		}
	}
}

func TestReadOfEachByteChanged(t *testing.T) { // P21.3
	s := hinted([]api.Pair{{Key: "a", Value: "one"}, {Key: "b"}, {Key: "é", Value: "\x00"}})
	for at := range len(s) {
		want := api.ErrSum
		if at < 4 {
			want = api.ErrForm
		}
		for turned := 1; turned < 256; turned++ {
			x := []byte(s)
			x[at] ^= byte(turned)
			reads(t, "a byte is changed", string(x), nil, want)
		}
	}
}

// Each byte is changed, and the sum is right all the same: what is read is
// what has just these bytes, or nothing.
func TestReadOfEachByteChangedWithItsSum(t *testing.T) { // P21.3
	s := hinted([]api.Pair{{Key: "a", Value: "one"}, {Key: "b"}, {Key: "é", Value: "\x00"}})
	read := 0
	for at := 4; at < len(s)-4; at++ {
		for turned := 1; turned < 256; turned++ {
			x := []byte(s[:len(s)-4])
			x[at] ^= byte(turned)
			l, isHint := pairsIn(string(x[4:]))
			if !isHint || !dir.May(l) {
				reads(t, "no hint", summed(string(x)), nil, api.ErrForm)
				continue
			}
			reads(t, "another hint", summed(string(x)), l, api.OK)
			read++
		}
	}
	if read < 100 {
		t.Errorf("only %d of them were hints", read)
	}
}

// pairsIn tells by places whether bytes are pairs, one behind the other, and
// which.
func pairsIn(s string) ([]api.Pair, bool) {
	var texts []string
	for at := 0; at < len(s); {
		if at+2 > len(s) {
			return nil, false
		}
		end := at + 2 + int(s[at]) + int(s[at+1])<<8
		if end > len(s) {
			return nil, false
		}
		texts = append(texts, s[at+2:end])
		at = end
	}
	var l []api.Pair
	for i := 0; i+1 < len(texts); i += 2 {
		l = append(l, api.Pair{Key: texts[i], Value: texts[i+1]})
	}
	return l, len(texts)%2 == 0
}

func TestReadOfWhatIsNoHint(t *testing.T) { // P21.3
	for _, l := range bad() {
		isLong := func(p api.Pair) bool { return len(p.Key) > 65535 || len(p.Value) > 65535 }
		if !slices.ContainsFunc(l, isLong) {
			reads(t, "it may not be", hinted(l), nil, api.ErrForm)
		}
	}
	for _, l := range good() {
		s := hinted(l)
		s = s[:len(s)-4]
		for _, behind := range []string{"\x00", "\x01", "\x00\x00", "\x01\x00", "\x01\x00~", "\xFF\xFF", "\x00\x00\x00\x00", "\x01\x00\x7F\x00\x00", "\x02\x00~~\x01", "\x02\x00~~\x01\x00", "\x02\x00~~\x02\x00~"} {
			reads(t, "left over, or without a Value", summed(s+behind), nil, api.ErrForm)
		}
	}
	last := hinted(keyed("a", "b"))
	for n := 5; n < len(last)-4; n++ {
		// "\x01\x00a\x01\x000" has six bytes: that much of it is a hint again.
		if n != 10 {
			reads(t, "cut, and summed again", summed(last[:n]), nil, api.ErrForm)
		}
	}
	reads(t, "cut behind a pair, and summed again", summed(last[:10]), keyed("a"), api.OK)
	reads(t, "nothing but zeros", summed("HINT"+strings.Repeat("\x00", 100000)), nil, api.ErrForm)
	reads(t, "a hint in a hint", summed(last), nil, api.ErrForm)
}

// All short bodies of a few bytes are tried.
func TestReadOfShortBodies(t *testing.T) { // P21.3
	bodies := []string{""}
	for from := 0; len(bodies[from]) < 6; from++ {
		for _, b := range []string{"\x00", "\x01", "\x02", "a", "b"} {
			bodies = append(bodies, bodies[from]+b)
		}
	}
	read := 0
	for _, body := range bodies {
		l, isHint := pairsIn(body)
		if !isHint || !dir.May(l) {
			reads(t, "no hint", summed("HINT"+body), nil, api.ErrForm)
			continue
		}
		reads(t, "a hint", summed("HINT"+body), l, api.OK)
		read++
	}
	if read < 10 {
		t.Errorf("only %d of them were hints", read)
	}
}

func TestReadAnswersNewMemory(t *testing.T) { // R5, R6
	s := hinted(keyed("a", "b"))
	l, _ := dir.Read(s)
	clear(l)
	reads(t, "behind a change of the answer", s, keyed("a", "b"), api.OK)
}

func TestMadeAgain(t *testing.T) { // P21.3, P21.4
	for _, l := range good() {
		var again []api.Pair
		for _, changes := range dir.Compact(l) {
			again = dir.Apply(again, changes)
		}
		if !slices.Equal(again, l) {
			t.Errorf("%.60v is %.60v, made again of its Compact", l, again)
		}
		s, err := dir.Hint(l)
		if err != api.OK {
			t.Errorf("Hint(%.60v): %d", l, err)
		}
		reads(t, "a hint", s, l, api.OK)
	}
}
