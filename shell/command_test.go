package shell_test

import (
	"slices"
	"strconv"
	"strings"
	"testing"

	"sheetpile/api"
	"sheetpile/block"
	"sheetpile/conf"
	"sheetpile/key"
	"sheetpile/scan"
	"sheetpile/stripe"
)

// The store's errors, and those of the groups, are said; nothing is changed.
func TestErrorsOfChanges(t *testing.T) { // P24.2
	long, longest := strings.Repeat("k", 65), strings.Repeat("v", 1024)
	s := talk(t, wide, "put a 1 -> ok", "sync -> ok", "put b 2 -> ok")
	for _, x := range []string{
		"put % 1 -> error 7", "put a 1 % 2 -> error 7", "put %1F 1 -> error 7", "put %7F 1 -> error 7", "put %FF 1 -> error 7",
		"put " + long + " 1 -> error 7", "put a " + longest + "v -> error 12", "put a " + longest + "v % 1 -> error 12", "put % 1 a " + longest + "v -> error 7",
		"put" + times(65, "a 1") + " -> error 12", "put" + times(65, "% %") + " -> error 12", "put a " + longest + " -> error 11",
		"put" + times(64, "a 1") + " -> error 11",
		"del % -> error 7", "del a % -> error 7", "del " + long + " -> error 7", "del" + times(65, "a") + " -> error 12", "del" + times(64, "a") + " -> error 11",
		"get % -> error 13", "get %FF -> error 13", "get " + long + " -> error 13", "get c -> error 13",
	} {
		goOn(t, s, x, "stat -> used 20 pending 1", "list -> keys a b", "get a -> value 1", "get b -> value 2")
	}
	goOn(t, s, "sync -> ok", "open -> ok", "stat -> used 40 pending 0", "list -> keys a b")
	talk(t, small, "put a 123456789 -> ok", "put a 1 -> error 11", "del a -> error 11", "sync -> ok", "del a -> error 11", "stat -> used 28 pending 0")
	talk(t, small, "put a 1234567890 -> error 11", "stat -> used 0 pending 0", "list -> keys")
}

// sync and merge leave no store open if they tell an error, be the power gone or
// too many disks; what was synced is there again.
func TestErrorsOfSyncAndMerge(t *testing.T) { // P24.2
	for _, line := range []string{"sync", "merge"} {
		s := talk(t, wide, "put a 1 -> ok", "sync -> ok", "put a 2 -> ok", "fuse 0 -> ok", line+" -> error 9")
		for _, x := range ofStores {
			goOn(t, s, x+" -> closed")
		}
		goOn(t, s, "open -> error 9", "list -> closed", "crash -> ok", "list -> closed", "open -> ok", "get a -> value 1", "stat -> used 20 pending 0")
		s = talk(t, wide, "put a 1 -> ok", "sync -> ok", "put a 2 -> ok", "fail 0 -> ok", "fail 1 -> ok", line+" -> error 10", "get a -> closed", "open -> error 10")
		goOn(t, s, "replace 0 -> ok", "replace 1 -> ok", "open -> error 10", "get a -> closed")
		talk(t, wide, "put a 1 -> ok", "fail 0 -> ok", line+" -> ok", "get a -> value 1", "open -> ok", "get a -> value 1")
	}
	talk(t, wide, "put a 1 -> ok", "sync -> ok", "fuse 0 -> ok", "sync -> ok", "get a -> value 1", "merge -> error 9", "get a -> closed")
	// What waited was synced ahead of the other half's being lost.
	talk(t, wide, "put a 1 -> ok", "corrupt 0 13 x -> ok", "corrupt 1 13 x -> ok", "merge -> error 10", "stat -> closed", "open -> ok", "get a -> value 1", "merge -> error 10")
}

func TestOpen(t *testing.T) { // P24.2
	talk(t, wide, "open -> ok", "list -> keys", "put a 1 -> ok", "open -> ok", "list -> keys", "stat -> used 0 pending 0")
	talk(t, wide, "put a 1 -> ok", "sync -> ok", "put b 2 -> ok", "open -> ok", "list -> keys a", "open -> ok", "list -> keys a")
	talk(t, wide, "put a 1 -> ok", "sync -> ok", "crash -> ok", "open -> ok", "list -> keys a")
	// An open that tells an error leaves none open, also where one was.
	s := talk(t, wide, "put a 1 -> ok", "sync -> ok", "fail 0 -> ok", "fail 1 -> ok", "get a -> value 1", "open -> error 10")
	for _, x := range ofStores {
		goOn(t, s, x+" -> closed")
	}
	// A log that must be cut needs power.
	talk(t, wide, "put a 1 -> ok", "put b "+strings.Repeat("v", 60)+" -> ok", "fuse 10 -> ok", "sync -> error 9", "crash -> ok",
		"fuse 0 -> ok", "open -> error 9", "list -> closed", "open -> error 9", "crash -> ok", "open -> ok", "list -> keys a", "stat -> used 20 pending 0")
}

func TestDisks(t *testing.T) { // P24.2
	full := strings.Repeat("x", 32+16+26)
	for _, d := range []string{"3", "4", "255", "9999"} {
		talk(t, wide, "fail "+d+" -> error 1", "replace "+d+" -> error 1", "corrupt "+d+" 0 x -> error 1", "corrupt "+d+" 9999 "+full+"x -> error 1", "scrub -> mended 0 lost 0")
	}
	talk(t, wide, "corrupt 0 23 x -> error 1", "corrupt 2 9999 x -> error 1", "corrupt 0 23 "+full+"x -> error 1", "corrupt 0 22 "+full+"x -> error 12", "scrub -> mended 0 lost 0",
		"corrupt 0 22 "+full+" -> ok", "scrub -> mended 1 lost 0")
	talk(t, wide, "fail 1 -> ok", "corrupt 1 0 x -> error 8", "corrupt 1 23 x -> error 8", "corrupt 1 0 "+full+"x -> error 8", "scrub -> mended 0 lost 0",
		"replace 1 -> ok", "corrupt 1 0 x -> ok", "scrub -> mended 22 lost 0", "scrub -> mended 0 lost 0", "fail 0 -> ok", "open -> ok")
	// These need no store, and no power. Open writes stripe 0 of its intent again.
	talk(t, wide, "fuse 0 -> ok", "put a 1 -> ok", "sync -> error 9", "fail 0 -> ok", "replace 0 -> ok", "corrupt 1 0 x -> ok", "fuse 1 -> ok", "scrub -> closed",
		"crash -> ok", "open -> ok", "scrub -> mended 22 lost 0")
}

// Each disk has a head, a slot, and 21 stripes from sector 2 on.
func TestScrub(t *testing.T) { // P24.2
	talk(t, wide, "put a 1 -> ok", "fail 0 -> ok", "fail 0 -> ok", "scrub -> mended 0 lost 0", "replace 0 -> ok", "scrub -> mended 22 lost 0", "get a -> value 1", "scrub -> mended 0 lost 0")
	talk(t, wide, "corrupt 0 0 x -> ok", "corrupt 1 0 x -> ok", "corrupt 2 2 x -> ok", "scrub -> mended 3 lost 0")
	talk(t, wide, "corrupt 0 1 x -> ok", "scrub -> mended 0 lost 0")
	s := talk(t, wide, "put a 1 -> ok", "sync -> ok", "corrupt 0 5 x -> ok", "corrupt 1 5 % -> ok", "corrupt 1 6 x -> ok", "scrub -> mended 1 lost 1", "scrub -> mended 0 lost 1")
	goOn(t, s, "fail 2 -> ok", "scrub -> mended 0 lost 1", "replace 2 -> ok", "scrub -> mended 21 lost 1", "fail 0 -> ok", "fail 1 -> ok", "scrub -> mended 0 lost 21", "get a -> value 1")
	// Without power nothing is looked at; the store is open still.
	talk(t, wide, "put a 1 -> ok", "corrupt 0 0 x -> ok", "fuse 0 -> ok", "scrub -> error 9", "scrub -> error 9", "get a -> value 1", "stat -> used 0 pending 1",
		"list -> keys a", "put a 2 -> ok", "del a -> ok", "sync -> error 9", "get a -> closed", "crash -> ok", "open -> ok", "scrub -> mended 1 lost 0")
}

// The fuse leaves so many writes; a sync of one group is one of 5 sectors.
func TestFuse(t *testing.T) { // P24.2
	for n := range 5 {
		want := "error 13"
		if n >= 2 {
			// The intents were flushed.
			want = "value 1"
		}
		talk(t, wide, "put a 1 -> ok", "fuse "+strconv.Itoa(n)+" -> ok", "sync -> error 9", "crash -> ok", "open -> ok", "get a -> "+want)
	}
	talk(t, wide, "put a 1 -> ok", "fuse 5 -> ok", "sync -> ok", "get a -> value 1", "put a 2 -> ok", "sync -> error 9", "crash -> ok", "open -> ok", "get a -> value 1")
	talk(t, wide, "put a 1 -> ok", "fuse 0 -> ok", "fuse 9999 -> ok", "sync -> ok")
	talk(t, wide, "put a 1 -> ok", "fuse 9999 -> ok", "fuse 0 -> ok", "sync -> error 9")
	// A crash takes the fuse away.
	talk(t, wide, "fuse 0 -> ok", "crash -> ok", "open -> ok", "put a 1 -> ok", "sync -> ok", "merge -> ok", "scrub -> mended 0 lost 0")
	// What writes nothing needs no power till it is gone.
	talk(t, wide, "fuse 0 -> ok", "put a 1 -> ok", "get a -> value 1", "open -> ok", "list -> keys", "scrub -> mended 0 lost 0")
}

// One write waits, or two, as the power goes: each has its place in what is kept.
func TestCrash(t *testing.T) { // P24.2
	for _, x := range []struct {
		fuse string
		keep string
		want string
	}{
		{"1", "", "error 13"},
		{"1", " 0", "error 13"},
		{"1", " 1", "value 1"},
		{"1", " 01", "error 13"},
		{"1", " 10", "value 1"},
		{"1", " 0111111111", "error 13"},
		{"1", " 1000000000", "value 1"},
		{"0", " 1111", "error 13"},
		// The intents are flushed, whatever is kept of the shards.
		{"2", "", "value 1"},
		{"3", " 0", "value 1"},
		{"4", " 10", "value 1"},
		{"4", " 01", "value 1"},
		{"4", " 1", "value 1"},
		{"4", " 111111", "value 1"},
	} {
		talk(t, wide, "put a 1 -> ok", "fuse "+x.fuse+" -> ok", "sync -> error 9", "crash"+x.keep+" -> ok", "get a -> closed", "open -> ok", "get a -> "+x.want)
	}
	for _, wrong := range []string{"2", "a", "00x", "0 1", "01 ", "-1", "1.", "%", "%31", "\u0661", "\x00", "O", "l"} {
		refuses(t, opened, "crash "+wrong)
		refuses(t, shut, "crash "+wrong)
	}
	long := "crash " + strings.Repeat("01", 10000)
	talk(t, wide, "put a 1 -> ok", "sync -> ok", long+" -> ok", "get a -> closed", long+" -> ok", "open -> ok", "get a -> value 1")
}

// However often it is merged, a store goes on.
func TestMergeAgain(t *testing.T) { // P24.2
	s := talk(t, wide)
	for i := range 200 {
		n := strconv.Itoa(i)
		goOn(t, s, "put a "+n+" -> ok", "put b "+n+" -> ok", "get a -> value "+n, "del b -> ok", "merge -> ok", "stat -> used "+strconv.Itoa(19+len(n))+" pending 0", "list -> keys a")
		if i%10 == 0 {
			goOn(t, s, "open -> ok", "get a -> value "+n, "get b -> error 13")
		}
	}
}

// Every answer is one of those that the table names.
func TestAnswersOfLines(t *testing.T) { // P24.2
	for _, ahead := range [][]string{opened, shut, {"fuse 0", "sync"}, {"fuse 0", "put a 1", "sync"}, {"fail 0", "fail 1"}} {
		for _, line := range slices.Concat(ofStores, ofArrays) {
			if got := sayBehind(t, ahead, line); !isAnswer(line, got) {
				t.Errorf("%q behind %q: %q", line, ahead, got)
			}
		}
	}
}

// The array's number is 1: a shard that is sealed for it, and later than the
// others, is taken for the stripe's; one for another array is not.
func TestNumberOfTheArray(t *testing.T) { // P24.1
	for _, number := range []int{0, 1, 2} {
		text, _ := scan.Write(0, [][]api.Change{{{Key: "a", Value: "2"}}})
		parts, _ := stripe.Split(small, text)
		sector, err := block.Seal(block.Block{Array: number, Place: conf.Stripe(small, 1), Epoch: 99, Text: parts[0]})
		if err != api.OK {
			t.Fatalf("block.Seal: %d", err)
		}
		want := "value 1"
		if number == 1 {
			want = "value 2"
		}
		talk(t, small, "put a 1 -> ok", "sync -> ok", "corrupt 0 3 "+key.Quote(sector)+" -> ok", "open -> ok", "get a -> "+want)
	}
}
