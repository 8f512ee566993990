package shell_test

import (
	"math"
	"slices"
	"strconv"
	"strings"
	"testing"

	"sheetpile/api"
	"sheetpile/conf"
	"sheetpile/key"
	"sheetpile/shell"
)

func TestNew(t *testing.T) { // P24.1
	for _, c := range []api.Conf{
		small, wide,
		{K: 1, M: 1, Shard: 8, Stripes: 3, Slots: 1},
		{K: 3, M: 2, Shard: 9, Stripes: 4, Slots: 16},
		{K: 250, M: 5, Shard: 16, Stripes: 3, Slots: 1},
		{K: 1, M: 254, Shard: 8, Stripes: 3, Slots: 1},
		{K: 2, M: 1, Shard: 1024, Stripes: 1000, Slots: 2},
	} {
		last := strconv.Itoa(conf.Disks(c) - 1)
		sector := strconv.Itoa(conf.Sectors(c) - 1)
		talk(t, c,
			"list -> keys", "stat -> used 0 pending 0", "get a -> error 13", "scrub -> mended 0 lost 0",
			"fail "+strconv.Itoa(conf.Disks(c))+" -> error 1",
			"corrupt "+last+" "+strconv.Itoa(conf.Sectors(c))+" x -> error 1",
			"corrupt "+last+" "+sector+" "+strings.Repeat("x", conf.Size(c)+1)+" -> error 12",
			"corrupt "+last+" "+sector+" "+strings.Repeat("x", conf.Size(c))+" -> ok",
			"scrub -> mended 1 lost 0", "open -> ok", "list -> keys", "scrub -> mended 0 lost 0",
			"fail "+last+" -> ok", "open -> ok", "list -> keys")
	}
}

func TestNewOfWrongLayouts(t *testing.T) { // P24.1, R3
	for _, c := range []api.Conf{
		{},
		{K: 0, M: 1, Shard: 16, Stripes: 3, Slots: 1},
		{K: 1, M: 0, Shard: 16, Stripes: 3, Slots: 1},
		{K: -1, M: 1, Shard: 16, Stripes: 3, Slots: 1},
		{K: 255, M: 1, Shard: 8, Stripes: 3, Slots: 1},
		{K: 1, M: 1, Shard: 7, Stripes: 3, Slots: 1},
		{K: 1, M: 1, Shard: 1025, Stripes: 3, Slots: 1},
		{K: 4, M: 1, Shard: 1001, Stripes: 3, Slots: 1},
		{K: 1, M: 1, Shard: 16, Stripes: 0, Slots: 1},
		{K: 1, M: 1, Shard: 16, Stripes: 1, Slots: 1},
		{K: 1, M: 1, Shard: 16, Stripes: 2, Slots: 1},
		{K: 1, M: 1, Shard: 16, Stripes: 1001, Slots: 1},
		{K: 1, M: 1, Shard: 16, Stripes: 3, Slots: 0},
		{K: 1, M: 1, Shard: 16, Stripes: 3, Slots: 17},
		{K: math.MaxInt, M: math.MaxInt, Shard: math.MaxInt, Stripes: math.MaxInt, Slots: math.MaxInt},
		{K: math.MinInt, M: math.MinInt, Shard: math.MinInt, Stripes: math.MinInt, Slots: math.MinInt},
	} {
		if s, err := shell.New(c); s != nil || err != api.ErrArg {
			t.Errorf("New(%v): %v, %d", c, s, err)
		}
		for _, l := range [][]string{nil, {}, {""}, {"list", "put a 1"}} {
			if answers, err := shell.Run(c, l); len(answers) != 0 || err != api.ErrArg {
				t.Errorf("Run(%v): %q, %d", c, answers, err)
			}
		}
	}
}

func TestRun(t *testing.T) { // P24.1
	for _, l := range [][]string{
		nil, {}, {""}, {"list"}, {"x", "", "list"},
		{"put a 1", "get a"}, {"get a", "put a 1"}, {"crash", "list", "open", "list"},
	} {
		s := begun(t, small)
		var want []string
		for _, line := range l {
			want = append(want, s.Say(line))
		}
		for range 2 {
			if got, err := shell.Run(small, l); !slices.Equal(got, want) || err != api.OK {
				t.Errorf("Run of %q: %q, %d, not %q", l, got, err, want)
			}
		}
	}
	l := []string{"put a 1", "get a"}
	said(t, small, l...)
	if !slices.Equal(l, []string{"put a 1", "get a"}) {
		t.Errorf("Run changed its lines: %q", l)
	}
}

func TestNoSession(t *testing.T) { // P24.1, R1
	var none *shell.Session
	for _, line := range slices.Concat(ofStores, ofArrays, []string{"", " ", "x", "put"}) {
		if got := none.Say(line); got != "" {
			t.Errorf("nil: %q: %q", line, got)
		}
	}
}

// One that New did not make has no disks, and no store is open.
func TestBareSession(t *testing.T) { // R1
	s := new(shell.Session)
	for _, line := range ofStores {
		goOn(t, s, line+" -> closed")
	}
	for _, line := range ofArrays {
		goOn(t, s, line+" -> error 1")
	}
}

func TestExample(t *testing.T) { // P24.2
	talk(t, wide, "put a 1 -> ok", "get a -> value 1")
	talk(t, wide, "put a 1 -> ok", "sync -> ok", "fail 0 -> ok", "open -> ok", "get a -> value 1")
	talk(t, wide, "put a 1 -> ok", "crash -> ok", "open -> ok", "get a -> error 13")
}

func TestPutAndDel(t *testing.T) { // P24.2
	talk(t, wide,
		"put b 1 a 2 -> ok", "list -> keys a b", "get a -> value 2", "get b -> value 1", "stat -> used 0 pending 1",
		"del b -> ok", "get b -> error 13", "list -> keys a", "stat -> used 0 pending 2",
		"del a c b -> ok", "list -> keys", "stat -> used 0 pending 3",
		"put a 1 a 2 -> ok", "get a -> value 2", "put a 3 b 4 a 5 -> ok", "get a -> value 5",
		"stat -> used 0 pending 5", "sync -> ok", "stat -> used 130 pending 0",
		"open -> ok", "list -> keys a b", "get a -> value 5",
		"merge -> ok", "stat -> used 27 pending 0", "list -> keys a b")
}

// Each line that there is, with just so many words, is taken; with one less, or
// one more, or with a blank too much, it is ErrLine, be a store open or not.
func TestHowManyWords(t *testing.T) { // P24.2
	for _, ahead := range [][]string{opened, shut} {
		for _, line := range slices.Concat(ofStores, ofArrays) {
			if got := sayBehind(t, ahead, line); got == "error 14" || got == "" {
				t.Errorf("%q: %q", line, got)
			}
			wrong := []string{" " + line, line + " ", "  " + line, strings.ToUpper(line), line + "\n", "x" + line}
			if first, rest, is := strings.Cut(line, " "); is {
				wrong = append(wrong, first+"  "+rest, first+"\t"+rest)
				if first != "crash" {
					wrong = append(wrong, first)
				}
				if first != "del" {
					wrong = append(wrong, line+" a")
				}
			} else {
				wrong = append(wrong, line+" a")
			}
			for _, w := range wrong {
				refuses(t, ahead, w)
			}
		}
		for _, w := range []string{
			"", " ", "  ", "x", "put a 1 b", "put a 1 b 2 c", "puts a 1", "pu", "get a b", "list list", "sync 1",
			"merge 0", "stat stat", "scrub 0", "open 0", "fail 0 1", "replace 0 1", "corrupt 0 0", "corrupt 0 0 x y",
			"corrupt 0", "fuse 1 1", "crash 0 1", "crash 01 1", "\x00", "put\x00a\x001", "put%20a%201", "%", "list%", "error 14", "ok",
		} {
			refuses(t, ahead, w)
		}
	}
}

func sayBehind(t *testing.T, ahead []string, line string) string {
	t.Helper()
	return said(t, wide, slices.Concat(ahead, []string{line})...)[len(ahead)]
}

// refuses is that a line is ErrLine, and that nothing is changed.
func refuses(t *testing.T, ahead []string, line string) {
	t.Helper()
	s, other := begun(t, wide), begun(t, wide)
	for _, x := range ahead {
		s.Say(x)
		other.Say(x)
	}
	goOn(t, s, line+" -> error 14")
	if got, want := tellsAll(s), tellsAll(other); got != want {
		t.Errorf("%q: it did something: %q, not %q", line, got, want)
	}
}

func TestTexts(t *testing.T) { // P24.2
	for _, ahead := range [][]string{opened, shut} {
		for _, wrong := range []string{"", "%4", "%4x", "%4G", "%4a", "%zz", "%41", "%7E", "%25%", "%%", "a%", "%00%", "\x00", "\x1f", "\x7f", "\x80", "\xff", "\n", "é", "%C3%a9", "a\tb"} {
			for _, line := range []string{
				"put " + wrong + " 1", "put a " + wrong, "put a 1 " + wrong + " 2", "put a 1 b " + wrong,
				"del " + wrong, "del a " + wrong, "get " + wrong, "corrupt 0 0 " + wrong,
			} {
				refuses(t, ahead, line)
			}
		}
	}
}

// Values of any bytes come back, quoted, and so do keys.
func TestQuotedTexts(t *testing.T) { // P24.2
	s := begun(t, api.Conf{K: 2, M: 1, Shard: 1024, Stripes: 3, Slots: 1})
	goOn(t, s,
		"put a %00 -> ok", "get a -> value %00", "put a % -> ok", "get a -> value %", "put a %25 -> ok", "get a -> value %25",
		"put a%20b %20 -> ok", "get a%20b -> value %20", "put %25 %22 -> error 14", "put %25 \" -> ok", "get %25 -> value \"",
		"put %C3%A9 %FF%FE -> ok", "get %C3%A9 -> value %FF%FE", "list -> keys %25 a a%20b %C3%A9",
		"del a%20b -> ok", "list -> keys %25 a %C3%A9", "sync -> ok", "open -> ok", "get %C3%A9 -> value %FF%FE")
	all := make([]byte, 256)
	for i := range all {
		all[i] = byte(i)
		quoted := key.Quote(string(all[i : i+1]))
		goOn(t, s, "put k "+quoted+" -> ok", "get k -> value "+quoted)
		if i%50 == 0 {
			goOn(t, s, "merge -> ok")
		}
	}
	quoted := key.Quote(string(all))
	goOn(t, s, "put k "+quoted+" -> ok", "merge -> ok", "open -> ok", "get k -> value "+quoted)
}

func TestNumbers(t *testing.T) { // P24.2
	lines := func(n string) []string {
		return []string{"fail " + n, "replace " + n, "fuse " + n, "corrupt " + n + " 0 x", "corrupt 0 " + n + " x"}
	}
	for _, ahead := range [][]string{opened, shut} {
		for _, wrong := range []string{
			"", "00", "01", "000", "0000", "0001", "00000", "10000", "12345", "99999", "100000000000000000000", "-1", "-0", "+1", "+0",
			"x", "a", "1x", "x1", "1.0", "1e1", "0x1", "1_0", "%", "%31", "\u0661", "\xff", "1\n", "\t1", "0b1", "1-", "--1",
		} {
			for _, line := range lines(wrong) {
				refuses(t, ahead, line)
			}
		}
		for _, right := range []string{"0", "1", "2", "3", "9", "10", "99", "100", "999", "1000", "9999"} {
			for _, line := range lines(right) {
				if got := sayBehind(t, ahead, line); got != "ok" && got != "error 1" {
					t.Errorf("%q: %q", line, got)
				}
			}
		}
	}
}

// If no store is open, what needs one says so, and nothing is changed.
func TestClosed(t *testing.T) { // P24.2
	for _, line := range ofStores {
		talk(t, wide, "put a 1 -> ok", "sync -> ok", "crash -> ok", line+" -> closed", line+" -> closed",
			"open -> ok", "list -> keys a", "get a -> value 1", "stat -> used 20 pending 0", "scrub -> mended 0 lost 0")
	}
	s := talk(t, wide, "crash -> ok")
	goOn(t, s, "get %20 -> closed", "put a 1 b 2 -> closed", "del a b -> closed", "get -> error 14", "list x -> error 14")
	goOn(t, s, "fail 0 -> ok", "replace 0 -> ok", "corrupt 0 0 x -> ok", "fuse 9 -> ok", "crash -> ok", "open -> ok")
}

// The same line again, while a store is open, while none is, and behind an open.
func TestSameLineAgain(t *testing.T) { // P24.2
	talk(t, wide, "put a 1 -> ok", "put a 1 -> ok", "stat -> used 0 pending 2", "stat -> used 0 pending 2",
		"sync -> ok", "sync -> ok", "stat -> used 40 pending 0", "merge -> ok", "merge -> ok", "stat -> used 20 pending 0",
		"del a -> ok", "del a -> ok", "get a -> error 13", "get a -> error 13", "open -> ok", "open -> ok", "get a -> value 1",
		"fail 0 -> ok", "fail 0 -> ok", "get a -> value 1", "replace 0 -> ok", "replace 0 -> ok", "scrub -> mended 22 lost 0", "scrub -> mended 0 lost 0",
		"crash -> ok", "crash -> ok", "get a -> closed", "get a -> closed", "open -> ok", "get a -> value 1")
}

func TestRunsOfTheSame(t *testing.T) { // R6
	lines := slices.Concat(opened, []string{"fail 2", "list", "merge", "fuse 3", "put d 4", "sync", "crash 101", "open", "list", "stat", "scrub", "replace 2", "scrub"})
	want := said(t, wide, lines...)
	for range 3 {
		if got := said(t, wide, lines...); !slices.Equal(got, want) {
			t.Errorf("%q, not %q", got, want)
		}
	}
}
