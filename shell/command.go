package shell

import (
	"strconv"

	"sheetpile/api"
	"sheetpile/array"
	"sheetpile/key"
	"sheetpile/store"
)

// command is what a line's first word asks for. The words behind it are of
// these kinds, in order, as many of them as fit.
type command struct {
	needsStore bool
	kinds      kinds
	fits       func(words int, asked int) bool
	do         func(s *Session, x arguments) (string, api.Errno)
}

// kinds tell of a word each whether it is of that kind, and take it.
type kinds []func(x *arguments, word string) bool

// arguments are a line's words behind the first one, by their kinds.
type arguments struct {
	texts   []string
	numbers []int
	keep    []bool
}

func commands() map[string]command {
	text, number, keep := (*arguments).text, (*arguments).number, (*arguments).kept
	return map[string]command{
		"put":     {needsStore: true, kinds: kinds{text, text}, fits: again, do: (*Session).put},
		"del":     {needsStore: true, kinds: kinds{text}, fits: again, do: (*Session).del},
		"get":     {needsStore: true, kinds: kinds{text}, fits: once, do: (*Session).get},
		"list":    {needsStore: true, fits: once, do: (*Session).list},
		"sync":    {needsStore: true, fits: once, do: writing((*store.Store).Sync)},
		"merge":   {needsStore: true, fits: once, do: writing((*store.Store).Merge)},
		"stat":    {needsStore: true, fits: once, do: (*Session).stat},
		"scrub":   {needsStore: true, fits: once, do: (*Session).scrub},
		"open":    {fits: once, do: (*Session).open},
		"fail":    {kinds: kinds{number}, fits: once, do: ofArray((*array.Array).Fail)},
		"replace": {kinds: kinds{number}, fits: once, do: ofArray((*array.Array).Replace)},
		"corrupt": {kinds: kinds{number, number, text}, fits: once, do: (*Session).corrupt},
		"fuse":    {kinds: kinds{number}, fits: once, do: ofArray((*array.Array).Fuse)},
		"crash":   {kinds: kinds{keep}, fits: atMostOnce, do: (*Session).crash},
	}
}

func once(words int, asked int) bool { return words == asked }

func atMostOnce(words int, asked int) bool { return words == 0 || words == asked }

func again(words int, asked int) bool { return words > 0 && words%asked == 0 }

// read takes the words; false, if there are too few of them or too many, or one
// is not what it should be.
func (c command) read(words []string) (arguments, bool) {
	if !c.fits(len(words), len(c.kinds)) {
		return arguments{}, false
	}
	var x arguments
	for i, word := range words {
		take := c.kinds[i%len(c.kinds)]
		if !take(&x, word) {
			return arguments{}, false
		}
	}
	return x, true
}

func (x *arguments) text(word string) bool {
	text, err := key.Unquote(word)
	x.texts = append(x.texts, text)
	return err == api.OK
}

// number writes again what it read: so a sign, or a 0 too much, is found.
func (x *arguments) number(word string) bool {
	n, err := strconv.Atoi(word)
	x.numbers = append(x.numbers, n)
	return err == nil && n >= 0 && n <= 9999 && strconv.Itoa(n) == word
}

func (x *arguments) kept(word string) bool {
	for i := range len(word) {
		if word[i] != '0' && word[i] != '1' {
			return false
		}
		x.keep = append(x.keep, word[i] == '1')
	}
	return word != ""
}

// ofArray does what the array does, with a number.
func ofArray(do func(a *array.Array, n int) api.Errno) func(s *Session, x arguments) (string, api.Errno) {
	return func(s *Session, x arguments) (string, api.Errno) { return done, do(s.array, x.numbers[0]) }
}

// writing does what the store does. With an error but ErrFull, ahead of which
// nothing was written that should not be, that store is of no use any more.
func writing(do func(st *store.Store) api.Errno) func(s *Session, x arguments) (string, api.Errno) {
	return func(s *Session, _ arguments) (string, api.Errno) {
		err := do(s.store)
		if err != api.OK && err != api.ErrFull {
			s.store = nil
		}
		return done, err
	}
}
