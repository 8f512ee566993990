package dir_test

import (
	"math/rand"
	"slices"
	"strconv"
	"strings"
	"testing"

	"sheetpile/api"
	"sheetpile/dir"
)

func TestMay(t *testing.T) { // P21.1 to P21.3: which directory may be
	for i, l := range good() {
		kept := slices.Clone(l)
		if !dir.May(l) {
			t.Errorf("good directory %d: %.60v may not be", i, l)
		}
		if !slices.Equal(l, kept) {
			t.Errorf("good directory %d is another one than it was", i)
		}
	}
	for i, l := range bad() {
		if dir.May(l) {
			t.Errorf("bad directory %d: %.60v may be", i, l)
		}
	}
}

// One pair of many is at fault, at each place.
func TestMayOfOneFault(t *testing.T) { // P21.1 to P21.3
	for at := range 130 {
		l := numbered(130)
		l[at].Value = strings.Repeat("v", 1025)
		if dir.May(l) {
			t.Errorf("the Value of pair %d is too long", at)
		}
		l = numbered(130)
		l[at].Key += "\x7F"
		if dir.May(l) {
			t.Errorf("the Key of pair %d is refused", at)
		}
		if at == 0 {
			continue
		}
		l = numbered(130)
		l[at].Key = l[at-1].Key
		if dir.May(l) {
			t.Errorf("the Key of pair %d is the one ahead of it", at)
		}
		l = numbered(130)
		l[at].Key, l[at-1].Key = l[at-1].Key, l[at].Key
		if dir.May(l) {
			t.Errorf("the Keys of pair %d and of the one ahead of it fall", at)
		}
	}
}

func TestApplyOfOneChange(t *testing.T) { // P21.1
	b, d := api.Pair{Key: "b", Value: "2"}, api.Pair{Key: "d", Value: "4"}
	l := []api.Pair{b, d}
	put := func(k, v string) api.Change { return api.Change{Key: k, Value: v} }
	gone := func(k string) api.Change { return api.Change{Key: k, Gone: true} }
	for _, x := range []struct {
		what string
		c    api.Change
		want []api.Pair
	}{
		{"ahead of all", put("a", "1"), []api.Pair{{Key: "a", Value: "1"}, b, d}},
		{"between", put("c", "3"), []api.Pair{b, {Key: "c", Value: "3"}, d}},
		{"behind all", put("e", "5"), []api.Pair{b, d, {Key: "e", Value: "5"}}},
		{"a begin of a Key", put("", ""), l},
		{"longer than a Key", put("b ", "x"), []api.Pair{b, {Key: "b ", Value: "x"}, d}},
		{"bytes decide, not runes", put("\uFFFF", "x"), []api.Pair{b, d, {Key: "\uFFFF", Value: "x"}}},
		{"upper case", put("D", "x"), []api.Pair{{Key: "D", Value: "x"}, b, d}},
		{"another Value of the first one", put("b", "x"), []api.Pair{{Key: "b", Value: "x"}, d}},
		{"another Value of the last one", put("d", "x"), []api.Pair{b, {Key: "d", Value: "x"}}},
		{"an empty Value", put("b", ""), []api.Pair{{Key: "b"}, d}},
		{"the same Value", put("b", "2"), l},
		{"the longest Value", put("c", maxValue), []api.Pair{b, {Key: "c", Value: maxValue}, d}},
		{"the longest Key", put(maxKey, "x"), []api.Pair{b, d, {Key: maxKey, Value: "x"}}},
		{"the first one is gone", gone("b"), []api.Pair{d}},
		{"the last one is gone", gone("d"), []api.Pair{b}},
		{"gone, and not there, ahead", gone("a"), l},
		{"gone, and not there, between", gone("c"), l},
		{"gone, and not there, behind", gone("e"), l},
		{"gone with a Value", api.Change{Key: "b", Value: "2", Gone: true}, l},
		{"a Value that is too long", put("b", strings.Repeat("v", 1025)), l},
	} {
		applies(t, x.what, l, []api.Change{x.c}, x.want)
	}
	for _, k := range badKeys() {
		applies(t, "a bad Key", l, []api.Change{put(k, "x")}, l)
		applies(t, "a bad Key is gone", l, []api.Change{gone(k)}, l)
	}
	applies(t, "of nothing", nil, []api.Change{put("a", "1")}, []api.Pair{{Key: "a", Value: "1"}})
	applies(t, "gone of nothing", nil, []api.Change{gone("a")}, nil)
	applies(t, "the only one is gone", []api.Pair{b}, []api.Change{gone("b")}, nil)
}

func TestApplyOfNoChanges(t *testing.T) { // P21.1
	for _, l := range good() {
		applies(t, "no changes", l, nil, l)
		applies(t, "no changes", l, []api.Change{}, l)
	}
}

func TestApplyOfWhatMayNotBe(t *testing.T) { // P21.1, R3
	for _, l := range bad() {
		for _, changes := range [][]api.Change{nil, {{Key: "a", Value: "x"}}, {{Key: "a", Gone: true}}, {{Key: "b", Gone: true}}, {{}}} {
			applies(t, "it may not be", l, changes, nil)
		}
	}
}

// The last change of a Key that is not refused is the one that holds.
func TestApplyOfSeveralChangesOfOneKey(t *testing.T) { // P21.1
	kinds := []api.Change{{Key: "k", Value: "1"}, {Key: "k", Value: "2"}, {Key: "k"}, {Key: "k", Gone: true}, {Key: "k", Value: "refused", Gone: true}, {Key: "k", Value: strings.Repeat("v", 1025)}}
	isRefused := func(c api.Change) bool { return c.Gone && c.Value != "" || len(c.Value) > 1024 }
	for _, l := range [][]api.Pair{nil, {{Key: "k", Value: "0"}}, keyed("a", "k", "z"), keyed("a", "z")} {
		for _, a := range kinds {
			for _, b := range kinds {
				for _, c := range kinds {
					m := map[string]string{}
					for _, p := range l {
						m[p.Key] = p.Value
					}
					for _, x := range []api.Change{a, b, c} {
						if isRefused(x) {
							continue
						}
						delete(m, x.Key)
						if !x.Gone {
							m[x.Key] = x.Value
						}
					}
					applies(t, "one Key", l, []api.Change{a, b, c}, plain(m))
					other := api.Change{Key: "m", Value: "other"}
					m["m"] = "other"
					applies(t, "one Key, and another one", l, []api.Change{a, other, b, other, c}, plain(m))
				}
			}
		}
	}
}

func TestApplyPassesOverWhatIsRefused(t *testing.T) { // P21.1
	l := keyed("b", "d")
	changes := []api.Change{{Key: "a", Value: "1"}, {Key: "d", Gone: true}, {Key: "b", Value: "2"}}
	want := []api.Pair{{Key: "a", Value: "1"}, {Key: "b", Value: "2"}}
	refused := []api.Change{{Key: "b", Value: "x", Gone: true}, {Key: "d", Value: strings.Repeat("v", 1025)}, {Key: "a", Value: strings.Repeat("v", 1025), Gone: true}}
	for _, k := range badKeys() {
		refused = append(refused, api.Change{Key: k, Value: "x"}, api.Change{Key: k, Gone: true})
	}
	for _, r := range refused {
		for at := range len(changes) + 1 {
			applies(t, "one is refused", l, slices.Insert(slices.Clone(changes), at, r), want)
		}
	}
	applies(t, "many are refused", l, slices.Concat(refused, changes, refused), want)
	applies(t, "all are refused", l, refused, l)
}

// More changes than a group may have are fine, since each is put alone.
func TestApplyOfManyChanges(t *testing.T) { // P21.1
	for _, n := range []int{63, 64, 65, 129, 70000} {
		want := numbered(n)
		var changes, goes []api.Change
		for _, p := range want {
			changes = append(changes, api.Change{Key: p.Key, Value: p.Value})
			goes = append(goes, api.Change{Key: p.Key, Gone: true})
		}
		applies(t, "rising", nil, changes, sorted(want))
		slices.Reverse(changes)
		applies(t, "falling", nil, changes, want)
		applies(t, "all go", want, goes, nil)
		applies(t, "all go, and come again", want, append(goes, changes...), want)
	}
}

// Changes at random are held against a map, one by one and together.
func TestApplyAgainstAMap(t *testing.T) { // P21.1
	random := rand.New(rand.NewSource(1))
	for round := range 300 {
		keys := 1 + random.Intn(30)
		m := map[string]string{}
		var l, start []api.Pair
		var all []api.Change
		for step := range 60 {
			c := api.Change{Key: strconv.Itoa(random.Intn(keys)), Gone: random.Intn(3) == 0}
			if !c.Gone || random.Intn(20) == 0 {
				c.Value = strconv.Itoa(step)
			}
			if random.Intn(20) == 0 {
				c.Key = badKeys()[random.Intn(len(badKeys()))]
			} else if c.Gone && c.Value == "" {
				delete(m, c.Key)
			} else if !c.Gone {
				m[c.Key] = c.Value
			}
			l = dir.Apply(l, []api.Change{c})
			all = append(all, c)
			if want := plain(m); !slices.Equal(l, want) || !dir.May(l) {
				t.Fatalf("round %d: %v: %v, not %v", round, c, l, want)
			}
			for k := range keys {
				v, is := m[strconv.Itoa(k)]
				gets(t, "as the map", l, strconv.Itoa(k), v, is)
			}
			if step == 20 {
				start, all = l, nil
			}
		}
		applies(t, "together", start, all, l)
	}
}

func TestGet(t *testing.T) { // P21.1
	for _, l := range good() {
		for _, p := range l {
			gets(t, "it is there", l, p.Key, p.Value, true)
			gets(t, "a longer one is not", l, p.Key+"\x00", "", false)
		}
		gets(t, "the empty one is not", l, "", "", false)
		gets(t, "it is not there", l, "none", "", false)
		gets(t, "it is not there", l, "\U0010FFFF\U0010FFFF", "", false)
	}
	l := keyed("a", "c")
	for _, k := range []string{"A", "b", "d", "aa", "a\x00", " ", "\xFF"} {
		gets(t, "it is not there", l, k, "", false)
	}
}

// Get asks nothing of a directory, but what stands there.
func TestGetOfWhatMayNotBe(t *testing.T) { // P21.1
	for _, l := range bad() {
		firsts := map[string]string{}
		for _, p := range slices.Backward(l) {
			firsts[p.Key] = p.Value
		}
		for k, v := range firsts {
			gets(t, "the first one of that Key", l, k, v, true)
		}
		gets(t, "it is not there", l, "none", "", false)
	}
	l := []api.Pair{{Key: "b", Value: "1"}, {Key: "a", Value: "2"}, {Key: "b", Value: "3"}, {Key: "a"}, {Key: "", Value: "4"}}
	gets(t, "twice there", l, "b", "1", true)
	gets(t, "twice there", l, "a", "2", true)
	gets(t, "the empty Key", l, "", "4", true)
}

func TestApplyAnswersNewMemory(t *testing.T) { // R5
	l := keyed("b", "d")
	for _, changes := range [][]api.Change{nil, {{Key: "x", Gone: true}}, {{Key: "a"}}, {{Key: "e"}}, {{Key: "b", Value: "x"}}, {{Key: "b", Gone: true}}, {{Key: "d", Gone: true}}} {
		for n := range len(l) + 1 {
			was := slices.Clone(l)
			clear(dir.Apply(l[:n], changes))
			_ = append(dir.Apply(l[:n], changes), api.Pair{Key: "more"})
			if !slices.Equal(l, was) {
				t.Fatalf("Apply(%v, %v) shares memory with what it was handed", l[:n], changes)
			}
		}
	}
}
