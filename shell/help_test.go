package shell_test

import (
	"slices"
	"strconv"
	"strings"
	"testing"

	"sheetpile/api"
	"sheetpile/key"
	"sheetpile/shell"
)

// small has 2 disks of 5 sectors, with at most 74 bytes; its halves are of one
// stripe, which 28 bytes go into. A write of a stripe is one of 4 sectors.
var small = api.Conf{K: 1, M: 1, Shard: 32, Stripes: 3, Slots: 1}

// wide has 3 disks of 23 sectors; its halves are of 10 stripes of 28 bytes. A
// write of a stripe is one of 5 sectors.
var wide = api.Conf{K: 2, M: 1, Shard: 16, Stripes: 21, Slots: 1}

func begun(t *testing.T, c api.Conf) *shell.Session {
	t.Helper()
	s, err := shell.New(c)
	if s == nil || err != api.OK {
		t.Fatalf("New(%v): %d", c, err)
	}
	return s
}

// talk is lines and what is said to them: `line -> answer`.
func talk(t *testing.T, c api.Conf, lines ...string) *shell.Session {
	t.Helper()
	s := begun(t, c)
	goOn(t, s, lines...)
	return s
}

func goOn(t *testing.T, s *shell.Session, lines ...string) {
	t.Helper()
	for i, x := range lines {
		line, want, _ := strings.Cut(x, " -> ")
		if got := s.Say(line); got != want {
			t.Errorf("line %d of %.200q: %.200q: %.200q, not %.200q", i, lines, line, got, want)
		}
	}
}

// said are the answers to lines on a session of their own.
func said(t *testing.T, c api.Conf, lines ...string) []string {
	t.Helper()
	answers, err := shell.Run(c, lines)
	if err != api.OK || len(answers) != len(lines) {
		t.Fatalf("Run(%v): %d answers to %d lines, %d", c, len(answers), len(lines), err)
	}
	return answers
}

// ofStores are the commands that need one, each with just so many words.
var ofStores = []string{"put a 1", "del a", "get a", "list", "sync", "merge", "stat", "scrub"}

// ofArrays are the others.
var ofArrays = []string{"open", "fail 0", "replace 0", "corrupt 0 0 x", "fuse 0", "crash", "crash 01"}

// opened and shut are sessions with a store that is open, and with one that is
// not: some things are put in each, and some of them wait.
var opened = []string{"put a 1 b 2", "sync", "put c 3", "del a"}

var shut = slices.Concat(opened, []string{"crash"})

// tellsAll is what a session tells of its store, and of its disks.
func tellsAll(s *shell.Session) string {
	var l []string
	for _, line := range []string{"stat", "list", "get a", "get b", "get c", "scrub", "open", "stat", "list", "scrub"} {
		l = append(l, s.Say(line))
	}
	return strings.Join(l, "\n")
}

// times is a word so many times, with a blank ahead of each.
func times(many int, word string) string { return strings.Repeat(" "+word, many) }

// isAnswer is whether something may be said to such a line, as the table tells.
func isAnswer(line string, answer string) bool {
	if isNumbers(answer, "error") {
		return true
	}
	first, _, _ := strings.Cut(line, " ")
	isOfStores := slices.ContainsFunc(ofStores, func(x string) bool { return strings.HasPrefix(x+" ", first+" ") })
	if isOfStores && answer == "closed" {
		return true
	}
	switch first {
	case "get":
		word, is := strings.CutPrefix(answer, "value ")
		_, err := key.Unquote(word)
		return is && err == api.OK
	case "list":
		return isRising(strings.Split(answer, " "))
	case "stat":
		return isNumbers(answer, "used", "pending")
	case "scrub":
		return isNumbers(answer, "mended", "lost")
	}
	return answer == "ok"
}

// isNumbers is whether these are names, with a number behind each.
func isNumbers(answer string, names ...string) bool {
	words := strings.Split(answer, " ")
	if len(words) != 2*len(names) {
		return false
	}
	for i, name := range names {
		n, err := strconv.Atoi(words[2*i+1])
		if words[2*i] != name || err != nil || n < 0 {
			return false
		}
	}
	return true
}

func isRising(words []string) bool {
	last := ""
	for _, word := range words[1:] {
		k, err := key.Unquote(word)
		if err != api.OK || k <= last {
			return false
		}
		last = k
	}
	return words[0] == "keys"
}
