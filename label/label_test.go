package label_test

import (
	"fmt"
	"math/rand"
	"reflect"
	"regexp"
	"slices"
	"sort"
	"strings"
	"testing"

	"vestibule/api"
	"vestibule/label"
)

// pairs are labels, of keys and values in turns.
func pairs(said ...string) []api.Pair {
	var l []api.Pair
	for i := 0; i+1 < len(said); i += 2 {
		l = append(l, api.Pair{Key: said[i], Value: said[i+1]})
	}
	return l
}

// want is what is asked of one key.
func want(key, how string, values ...string) api.Want {
	return api.Want{Key: key, How: how, Values: values}
}

// selector selects by these labels, and by what is asked.
func selector(l []api.Pair, wants ...api.Want) api.Selector {
	return api.Selector{Labels: l, Wants: wants}
}

// times is s, n times.
func times(s string, n int) string { return strings.Repeat(s, n) }

// says holds a call's answer against what is written here.
func says(t *testing.T, got, want bool, call string, args ...any) {
	t.Helper()
	if got != want {
		t.Errorf("%s(%.300s): %v, want %v", call, fmt.Sprintf("%+q", args), got, want)
	}
}

// has holds Has against what is written here.
func has(t *testing.T, l []api.Pair, key, value string, there bool) {
	t.Helper()
	if got, ok := label.Has(l, key); got != value || ok != there {
		t.Errorf("Has(%.300s, %.100q): %.100q, %v, want %.100q, %v", fmt.Sprintf("%+q", l), key, got, ok, value, there)
	}
}

// Another reader of the chapter: names by regular expressions, twins by sorting, labels by a map that is filled from behind, and wants by a table.
var (
	valueText = `[A-Za-z0-9]([-_.A-Za-z0-9]{0,61}[A-Za-z0-9])?`
	partText  = `[a-z0-9]([-a-z0-9]{0,61}[a-z0-9])?`
	values    = regexp.MustCompile(`\A(` + valueText + `)?\z`)
	keys      = regexp.MustCompile(`\A(` + partText + `(\.` + partText + `)*/)?` + valueText + `\z`)
)

func asValue(s string) bool { return values.MatchString(s) }
func asKey(s string) bool   { return keys.MatchString(s) && strings.Index(s, "/") <= 253 }

func asLabels(l []api.Pair) bool {
	var row []string
	for _, p := range l {
		if !asKey(p.Key) || !asValue(p.Value) {
			return false
		}
		row = append(row, p.Key)
	}
	sort.Strings(row)
	return len(slices.Compact(row)) == len(l)
}

func asWant(w api.Want) bool {
	least, most := 1, len(w.Values)
	switch strings.TrimPrefix(w.How, "Not") {
	case "In":
	case "Exists", "DoesNotExist":
		least, most = 0, 0
	default:
		return false
	}
	for _, v := range w.Values {
		if !asValue(v) {
			return false
		}
	}
	return asKey(w.Key) && w.How != "NotExists" && w.How != "NotDoesNotExist" && least <= len(w.Values) && len(w.Values) <= most
}

func asCheck(s api.Selector) bool {
	for _, w := range s.Wants {
		if !asWant(w) {
			return false
		}
	}
	return asLabels(s.Labels)
}

func asHas(l []api.Pair, key string) (string, bool) {
	first := map[string]string{}
	for i := len(l) - 1; i >= 0; i-- {
		first[l[i].Key] = l[i].Value
	}
	v, there := first[key]
	return v, there
}

// wanted tells of each kind whether it is so of a key that is not there, one with no value that is asked for, and one with such a value.
var wanted = map[string][3]bool{
	"In":           {false, false, true},
	"NotIn":        {true, true, false},
	"Exists":       {false, true, true},
	"DoesNotExist": {true, false, false},
}

func asWants(w api.Want, l []api.Pair) bool {
	v, there := asHas(l, w.Key)
	at := 0
	if there {
		at = 1
		for _, one := range w.Values {
			if one == v {
				at = 2
			}
		}
	}
	return wanted[w.How][at]
}

func asSelects(s api.Selector, l []api.Pair) bool {
	unmet := 0
	for _, p := range s.Labels {
		if !asWants(want(p.Key, "In", p.Value), l) {
			unmet++
		}
	}
	for _, w := range s.Wants {
		if !asWants(w, l) {
			unmet++
		}
	}
	return unmet == 0
}

// agree holds all calls against the other reader.
func agree(t *testing.T, s api.Selector, l []api.Pair) {
	t.Helper()
	says(t, label.Labels(l), asLabels(l), "Labels", l)
	says(t, label.Labels(s.Labels), asLabels(s.Labels), "Labels", s.Labels)
	says(t, label.Check(s), asCheck(s), "Check", s)
	says(t, label.Empty(s), len(s.Labels)+len(s.Wants) == 0, "Empty", s)
	says(t, label.Selects(s, l), asSelects(s, l), "Selects", s, l)
	for _, w := range s.Wants {
		says(t, label.Wants(w, l), asWants(w, l), "Wants", w, l)
	}
	for _, key := range keysOf(s, l) {
		v, there := asHas(l, key)
		has(t, l, key, v, there)
	}
}

// keysOf are all keys that are asked for, or there, and one that is not.
func keysOf(s api.Selector, l []api.Pair) []string {
	row := []string{"none"}
	for _, p := range slices.Concat(s.Labels, l) {
		row = append(row, p.Key)
	}
	for _, w := range s.Wants {
		row = append(row, w.Key)
	}
	return row
}

// The names that may be, and those that may not, as chapter 3 writes them.
var (
	someKeys = []string{"a", "A", "0", "a.b", "a_b", "a-b", "a/b", "a.b-c/D_e.f", "app.kubernetes.io/name", times("k", 63), times("a.", 126) + "b/" + times("K", 63)}
	noKeys   = []string{"", " ", "-", "_", ".", "/", "-a", "a-", "a.", "a/", "/a", "a//b", "a/b/c", "A/b", "a_b/c", "a..b/c", "a b", "a=b", "a\n", "a\x00", "\xc3\xa9", "\xff", times("k", 64), "a/" + times("k", 64), times("a.", 126) + "bc/d"}
	someVals = []string{"", "a", "A", "0", "a.b", "A_b-c.D", "a--b", "true", times("v", 63)}
	noVals   = []string{" ", "-", "_", ".", "-a", "a-", "_a", "a.", "a/b", "/", "a b", "a,b", "a\n", "\x00", "\xc3\xa9", "\xff", times("v", 64)}
)

// TestLabelsOne is of P7.1: no labels, and one, whose key and value may be, or may not.
func TestLabelsOne(t *testing.T) {
	says(t, label.Labels(nil), true, "Labels", nil)
	says(t, label.Labels([]api.Pair{}), true, "Labels", []api.Pair{})
	for _, key := range append(slices.Clone(someKeys), noKeys...) {
		for _, value := range append(slices.Clone(someVals), noVals...) {
			l := pairs(key, value)
			says(t, label.Labels(l), slices.Contains(someKeys, key) && slices.Contains(someVals, value), "Labels", l)
			says(t, label.Check(selector(l)), slices.Contains(someKeys, key) && slices.Contains(someVals, value), "Check", l)
		}
	}
}

// TestLabelsPlaces is of P7.1: a pair that may not be as the first, as the last, and between.
func TestLabelsPlaces(t *testing.T) {
	good := pairs("a", "1", "b", "1", "a/b", "", "B", "2", "c", "a")
	says(t, label.Labels(good), true, "Labels", good)
	var bad []api.Pair
	for _, key := range noKeys {
		bad = append(bad, api.Pair{Key: key, Value: "1"})
	}
	for _, value := range noVals {
		bad = append(bad, api.Pair{Key: "z", Value: value})
	}
	for at := range len(good) + 1 {
		for _, p := range bad {
			l := slices.Insert(slices.Clone(good), at, p)
			says(t, label.Labels(l), false, "Labels", l)
			says(t, label.Check(selector(l)), false, "Check", l)
			says(t, label.Check(selector(l, want("a", "Exists"))), false, "Check", l)
		}
		l := slices.Insert(slices.Clone(good), at, api.Pair{Key: "z", Value: "1"})
		says(t, label.Labels(l), true, "Labels", l)
	}
}

// TestLabelsTwice is of P7.1: a key that is there twice, next to each other and apart, with the same value and with another one.
func TestLabelsTwice(t *testing.T) {
	for n := 2; n <= 6; n++ {
		for first := range n {
			for second := range first {
				for _, value := range []string{"1", "2", ""} {
					var l []api.Pair
					for i := range n {
						l = append(l, api.Pair{Key: fmt.Sprint("k", i), Value: "1"})
					}
					says(t, label.Labels(l), true, "Labels", l)
					l[second] = api.Pair{Key: l[first].Key, Value: value}
					says(t, label.Labels(l), false, "Labels", l)
					says(t, label.Check(selector(l)), false, "Check", l)
				}
			}
		}
	}
	for _, l := range [][]api.Pair{pairs("a", "1", "A", "1"), pairs("a", "", "b", ""), pairs("a", "a", "a/a", "a"), pairs("a/a", "", "b/a", ""), pairs("a", "b", "b", "a"), pairs("a", "1", "a.a", "1", "a-a", "1", "aa", "1")} {
		says(t, label.Labels(l), true, "Labels", l)
	}
	says(t, label.Labels(pairs("", "1", "", "1")), false, "Labels")
	says(t, label.Labels(pairs("a", "-", "a", "-")), false, "Labels")
}

// TestCheckWritten is of P7.1: selectors that may be, and others, written out.
func TestCheckWritten(t *testing.T) {
	for _, s := range []api.Selector{
		{},
		selector(nil), selector([]api.Pair{}),
		{Labels: []api.Pair{}, Wants: []api.Want{}},
		selector(pairs("a", "1")),
		selector(pairs("a", "1", "b", "")),
		selector(nil, want("a", "In", "1")),
		selector(nil, want("a", "In", "")),
		selector(nil, want("a", "NotIn", "1", "2", "3")),
		selector(nil, want("a", "Exists")),
		selector(nil, want("a", "DoesNotExist")),
		selector(nil, api.Want{Key: "a", How: "Exists", Values: []string{}}),
		selector(nil, want("a", "In", "1", "1")),
		selector(nil, want("a", "In", "1"), want("a", "In", "2")),
		selector(nil, want("a", "In", "1"), want("a", "In", "1")),
		selector(nil, want("a", "Exists"), want("a", "DoesNotExist"), want("a", "Exists")),
		selector(pairs("a", "1"), want("a", "DoesNotExist")),
		selector(pairs("a", "1"), want("b", "NotIn", "2"), want("a.b/c", "Exists")),
	} {
		says(t, label.Check(s), true, "Check", s)
	}
	for _, s := range []api.Selector{
		selector(pairs("a", "1", "a", "1")),
		selector(pairs("", "1")),
		selector(pairs("a", "-")),
		selector(pairs("a", "1", "a", "2"), want("b", "Exists")),
		selector(nil, api.Want{}),
		selector(nil, want("", "Exists")),
		selector(nil, want("a", "")),
		selector(nil, want("a", "", "1")),
		selector(nil, want("a", "Exists"), want("a", "Is")),
		selector(nil, want("a", "In")),
		selector(nil, api.Want{Key: "a", How: "NotIn", Values: []string{}}),
		selector(pairs("a", "1"), want("a", "Exists", "1")),
		selector(pairs("a", "1"), want("b", "NotIn", "2"), want("a.b/c", "Exists", "")),
	} {
		says(t, label.Check(s), false, "Check", s)
	}
}

// hows are the four kinds, and some that there aren't.
var (
	hows   = []string{"In", "NotIn", "Exists", "DoesNotExist"}
	noHows = []string{"", " ", "in", "IN", "notin", "notIn", "Notin", "NOTIN", "exists", "EXISTS", "doesnotexist", "doesNotExist", "In ", " In", "NotIn ", "Exists\n", "Exist", "DoesNotExists", "Does Not Exist", "NotExists", "NotDoesNotExist", "I", "N", "InIn", "NotNotIn", "!", "=", "==", "!=", "Gt", "Lt", "In\x00", "\xff"}
)

// TestConstants is of the section Words: the kinds are what it writes of them.
func TestConstants(t *testing.T) {
	if got := []string{api.HowIn, api.HowNotIn, api.HowThere, api.HowGone}; !slices.Equal(got, hows) {
		t.Errorf("the kinds are %q, want %q", got, hows)
	}
}

// TestCheckKinds is of P7.1: each kind, and some that there aren't, with no values, one and several.
func TestCheckKinds(t *testing.T) {
	lists := [][]string{nil, {}, {""}, {"1"}, {"1", "2"}, {"1", "1"}, {"", ""}, {"1", "", "2"}, {"1", "2", "3", "1"}}
	for _, how := range append(slices.Clone(hows), noHows...) {
		for _, list := range lists {
			one := selector(nil, want("a", how, list...))
			may := (how == "In" || how == "NotIn") && len(list) > 0 || (how == "Exists" || how == "DoesNotExist") && len(list) == 0
			says(t, label.Check(one), may, "Check", one)
			for _, s := range beside(one.Wants[0]) {
				says(t, label.Check(s), may, "Check", s)
			}
		}
	}
}

// beside are selectors with a want among others that may be, first, last and between.
func beside(w api.Want) []api.Selector {
	other, more := want("b", "Exists"), want("a", "In", "1")
	return []api.Selector{
		selector(pairs("a", "1"), w),
		selector(nil, w, other, more), selector(nil, other, w, more), selector(nil, other, more, w),
		selector(pairs("b", ""), other, more, w),
	}
}

// TestCheckKeys is of P7.1: each kind of want with keys that may be, and that may not.
func TestCheckKeys(t *testing.T) {
	for _, how := range hows {
		var list []string
		if strings.HasSuffix(how, "In") {
			list = []string{"1"}
		}
		for _, key := range someKeys {
			s := selector(nil, want(key, how, list...))
			says(t, label.Check(s), true, "Check", s)
		}
		for _, key := range noKeys {
			for _, s := range append(beside(want(key, how, list...)), selector(nil, want(key, how, list...))) {
				says(t, label.Check(s), false, "Check", s)
			}
		}
	}
}

// TestCheckValues is of P7.1: values that may not be, alone, first, last and between, in each kind.
func TestCheckValues(t *testing.T) {
	for _, how := range hows {
		in := strings.HasSuffix(how, "In")
		for _, v := range append(slices.Clone(someVals), noVals...) {
			may := in && slices.Contains(someVals, v)
			for _, list := range [][]string{{v}, {v, "1", "2"}, {"1", v, "2"}, {"1", "2", v}, {v, v}, {"", v}} {
				for _, s := range append(beside(want("a", how, list...)), selector(nil, want("a", how, list...))) {
					says(t, label.Check(s), may, "Check", s)
				}
			}
		}
	}
}

// TestHas is of P7.1: a key that is not there, that is there once, and twice; what the first one says, be it empty.
func TestHas(t *testing.T) {
	for _, w := range []struct {
		l          []api.Pair
		key, value string
		there      bool
	}{
		{nil, "a", "", false},
		{nil, "", "", false},
		{[]api.Pair{}, "a", "", false},
		{pairs("a", "1"), "a", "1", true},
		{pairs("a", "1"), "b", "", false},
		{pairs("a", "1"), "A", "", false},
		{pairs("a", "1"), "", "", false},
		{pairs("a", "1"), "1", "", false},
		{pairs("a", "1"), "aa", "", false},
		{pairs("aa", "1"), "a", "", false},
		{pairs("a", ""), "a", "", true},
		{pairs("a", ""), "b", "", false},
		{pairs("a", "1", "b", "2", "c", "3"), "a", "1", true},
		{pairs("a", "1", "b", "2", "c", "3"), "b", "2", true},
		{pairs("a", "1", "b", "2", "c", "3"), "c", "3", true},
		{pairs("a", "1", "b", "2", "c", "3"), "d", "", false},
		{pairs("a", "1", "a", "2"), "a", "1", true},
		{pairs("a", "2", "a", "1"), "a", "2", true},
		{pairs("a", "", "a", "1"), "a", "", true},
		{pairs("a", "1", "a", ""), "a", "1", true},
		{pairs("b", "0", "a", "1", "c", "0", "a", "2", "a", "3"), "a", "1", true},
		{pairs("x/a", "1", "a", "2", "a/x", "3"), "a", "2", true},
		{pairs("", "1"), "", "1", true},
		{pairs("", "", "", "1"), "", "", true},
		{pairs("-", "no value!"), "-", "no value!", true},
		{pairs("a b", "\x00\xff"), "a b", "\x00\xff", true},
		{pairs("\xff", "\n", "\xfe", "2"), "\xfe", "2", true},
		{pairs("a\x00", "1"), "a", "", false},
	} {
		has(t, w.l, w.key, w.value, w.there)
	}
}

// TestEmpty is of P7.1: it is empty only if it has neither labels nor wants, whatever these are.
func TestEmpty(t *testing.T) {
	for _, s := range []api.Selector{{}, selector([]api.Pair{}), {Wants: []api.Want{}}, {Labels: []api.Pair{}, Wants: []api.Want{}}, selector(make([]api.Pair, 0, 3))} {
		says(t, label.Empty(s), true, "Empty", s)
	}
	for _, s := range []api.Selector{
		selector(pairs("a", "1")), selector(pairs("a", "1", "b", "2")), selector([]api.Pair{{}}), selector(pairs("-", "-")),
		selector(nil, want("a", "Exists")), selector(nil, api.Want{}), selector(nil, want("", "is"), want("a", "In")), selector([]api.Pair{}, want("a", "In")),
		selector(pairs("a", "1"), want("a", "Exists")),
	} {
		says(t, label.Empty(s), false, "Empty", s)
	}
}

// TestWantsWritten is of P7.2: the four kinds, and others, of labels that are written out.
func TestWantsWritten(t *testing.T) {
	l := pairs("a", "1", "b", "", "c", "3", "twice", "1", "twice", "2", "-", "a b", "", "x")
	for _, w := range []struct {
		want api.Want
		// told are the answers in the order of hows.
		told string
	}{
		{want("a", ""), "nyyn"},
		{want("a", "", "1"), "ynyn"},
		{want("a", "", "2"), "nyyn"},
		{want("a", "", ""), "nyyn"},
		{want("a", "", "1", "2", "3"), "ynyn"},
		{want("a", "", "2", "1", "3"), "ynyn"},
		{want("a", "", "2", "3", "1"), "ynyn"},
		{want("a", "", "2", "3", "4"), "nyyn"},
		{want("a", "", "1", "1"), "ynyn"},
		{want("a", "", "a", "11", "01", "1 "), "nyyn"},
		{want("a", "", "-", "a b", "1"), "ynyn"},
		{want("b", ""), "nyyn"},
		{want("b", "", ""), "ynyn"},
		{want("b", "", "1", ""), "ynyn"},
		{want("b", "", "1"), "nyyn"},
		{want("c", "", "1", "3"), "ynyn"},
		{want("none", ""), "nyny"},
		{want("none", "", ""), "nyny"},
		{want("none", "", "1"), "nyny"},
		{want("none", "", "1", "2"), "nyny"},
		{want("A", "", "1"), "nyny"},
		{want("twice", "", "1"), "ynyn"},
		{want("twice", "", "2"), "nyyn"},
		{want("twice", "", "1", "2"), "ynyn"},
		{want("-", ""), "nyyn"},
		{want("-", "", "a b"), "ynyn"},
		{want("-", "", "a"), "nyyn"},
		{want("", ""), "nyyn"},
		{want("", "", "x"), "ynyn"},
		{want("", "", ""), "nyyn"},
		{want("\xff", "", "x"), "nyny"},
	} {
		for i, how := range hows {
			w.want.How = how
			says(t, label.Wants(w.want, l), w.told[i] == 'y', "Wants", w.want, l)
			for _, none := range [][]api.Pair{nil, {}} {
				says(t, label.Wants(w.want, none), i == 1 || i == 3, "Wants", w.want, none)
			}
		}
		for _, how := range noHows {
			w.want.How = how
			says(t, label.Wants(w.want, l), false, "Wants", w.want, l)
			says(t, label.Wants(w.want, nil), false, "Wants", w.want)
		}
	}
}

// TestSelectsWritten is of P7.2: selectors with labels that they select, and others that they don't.
func TestSelectsWritten(t *testing.T) {
	none, some, other := pairs(), pairs("a", "1"), pairs("b", "2", "a", "1", "c", "")
	for _, w := range []struct {
		s       api.Selector
		yes, no [][]api.Pair
	}{
		{selector(nil), [][]api.Pair{nil, none, some, other, pairs("-", "-"), pairs("a", "1", "a", "1")}, nil},
		{api.Selector{Labels: []api.Pair{}, Wants: []api.Want{}}, [][]api.Pair{nil, {}, some, other}, nil},
		{selector(pairs("a", "1"), want("b", "NotIn", "2")), [][]api.Pair{some, pairs("a", "1", "b", "1"), pairs("b", "", "a", "1")}, [][]api.Pair{none, pairs("a", "1", "b", "2"), other, pairs("a", "2"), pairs("b", "1")}},
		{selector(pairs("a", "1")), [][]api.Pair{some, other, pairs("a", "1", "a", "2")}, [][]api.Pair{nil, none, pairs("a", "2"), pairs("a", ""), pairs("A", "1"), pairs("b", "1"), pairs("1", "a"), pairs("a", "2", "a", "1"), pairs("a", "11"), pairs("b", "1", "a", "2")}},
		{selector(pairs("a", "")), [][]api.Pair{pairs("a", ""), pairs("b", "1", "a", "")}, [][]api.Pair{nil, some, pairs("b", ""), pairs("b", "1"), pairs("a", "1", "a", "")}},
		{selector(pairs("a", "1", "b", "2")), [][]api.Pair{other, pairs("a", "1", "b", "2"), pairs("b", "2", "a", "1")}, [][]api.Pair{nil, some, pairs("b", "2"), pairs("a", "1", "b", "1"), pairs("a", "2", "b", "2"), pairs("a", "2", "b", "1")}},
		{selector(pairs("a", "1", "a", "2")), nil, [][]api.Pair{nil, some, pairs("a", "2"), pairs("a", "1", "a", "2"), pairs("a", "2", "a", "1")}},
		{selector(pairs("a", "1", "a", "1")), [][]api.Pair{some, other}, [][]api.Pair{nil, pairs("a", "2")}},
		{selector(pairs("", "1", "-", "a b")), [][]api.Pair{pairs("-", "a b", "", "1")}, [][]api.Pair{nil, some, pairs("", "1"), pairs("-", "a b")}},
		{selector([]api.Pair{{}}), [][]api.Pair{pairs("", "")}, [][]api.Pair{nil, some, pairs("", "1"), pairs("a", "")}},
		{selector(nil, want("a", "In", "1", "2")), [][]api.Pair{some, other, pairs("a", "2")}, [][]api.Pair{nil, pairs("a", "3"), pairs("b", "1")}},
		{selector(nil, want("a", "In", "1", "2"), want("a", "In", "2", "3")), [][]api.Pair{pairs("a", "2")}, [][]api.Pair{nil, some, pairs("a", "3")}},
		{selector(nil, want("a", "In", "1"), want("a", "NotIn", "1")), nil, [][]api.Pair{nil, some, other, pairs("a", "2")}},
		{selector(nil, want("a", "Exists"), want("a", "NotIn", "1")), [][]api.Pair{pairs("a", "2"), pairs("a", "")}, [][]api.Pair{nil, some, other, pairs("b", "2")}},
		{selector(nil, want("a", "Exists")), [][]api.Pair{some, other, pairs("a", "")}, [][]api.Pair{nil, pairs("b", "1")}},
		{selector(nil, want("a", "DoesNotExist")), [][]api.Pair{nil, none, pairs("b", "1")}, [][]api.Pair{some, other, pairs("a", "")}},
		{selector(nil, want("a", "Exists"), want("a", "DoesNotExist")), nil, [][]api.Pair{nil, some, other, pairs("b", "1")}},
		{selector(pairs("a", "1"), want("b", "Exists"), want("c", "In", "", "3"), want("d", "DoesNotExist")), [][]api.Pair{other, pairs("c", "3", "b", "", "a", "1")}, [][]api.Pair{nil, some, append(slices.Clone(other), pairs("d", "")...), pairs("a", "1", "b", "2"), pairs("a", "1", "c", ""), pairs("b", "2", "c", "")}},
		{selector(pairs("a", "1"), want("a", "exists")), nil, [][]api.Pair{nil, some, other}},
		{selector(nil, api.Want{}), nil, [][]api.Pair{nil, some, pairs("", "")}},
		{selector(nil, want("a", "In")), nil, [][]api.Pair{nil, some, pairs("a", "")}},
		{selector(nil, want("a", "NotIn")), [][]api.Pair{nil, some, pairs("a", "")}, nil},
		{selector(nil, want("a", "Exists", "2")), [][]api.Pair{some}, [][]api.Pair{nil, pairs("b", "2")}},
		{selector(nil, want("-", "Exists"), want("", "DoesNotExist", "x")), [][]api.Pair{pairs("-", "")}, [][]api.Pair{nil, some, pairs("-", "", "", "")}},
	} {
		for _, l := range w.yes {
			says(t, label.Selects(w.s, l), true, "Selects", w.s, l)
		}
		for _, l := range w.no {
			says(t, label.Selects(w.s, l), false, "Selects", w.s, l)
		}
	}
}

// TestSelectsEach is of P7.2: of many pairs and wants, one that is not so, at each place.
func TestSelectsEach(t *testing.T) {
	var l []api.Pair
	var wants []api.Want
	for i := range 8 {
		key := fmt.Sprint("k", i)
		l = append(l, api.Pair{Key: key, Value: fmt.Sprint(i)})
		wants = append(wants, want(key, "In", "9", fmt.Sprint(i)))
	}
	says(t, label.Selects(selector(l, wants...), l), true, "Selects", l, wants)
	for i := range l {
		less := slices.Delete(slices.Clone(l), i, i+1)
		says(t, label.Selects(selector(l), less), false, "Selects", l, less)
		says(t, label.Selects(selector(nil, wants...), less), false, "Selects", wants, less)
		says(t, label.Selects(selector(less, slices.Delete(slices.Clone(wants), i, i+1)...), less), true, "Selects", less, less)
		other := slices.Clone(l)
		other[i].Value = "8"
		says(t, label.Selects(selector(l), other), false, "Selects", l, other)
		says(t, label.Selects(selector(nil, wants...), other), false, "Selects", wants, other)
		says(t, label.Selects(selector(other), l), false, "Selects", other, l)
	}
}

// rows are all rows of up to n of these, in all orders, with repeats.
func rows[T any](of []T, n int) [][]T {
	all := [][]T{nil}
	last := all
	for range n {
		var longer [][]T
		for _, row := range last {
			for _, v := range of {
				longer = append(longer, append(slices.Clone(row), v))
			}
		}
		all, last = append(all, longer...), longer
	}
	return all
}

// crossed are pairs of all these keys with all these values.
func crossed(keys, values []string) []api.Pair {
	var l []api.Pair
	for _, key := range keys {
		for _, value := range values {
			l = append(l, api.Pair{Key: key, Value: value})
		}
	}
	return l
}

// someWants are wants of all kinds, and of none, with up to n of these values.
func someWants(keys, values []string, n int) []api.Want {
	var l []api.Want
	for _, key := range keys {
		for _, how := range append(slices.Clone(hows), "", "in") {
			for _, list := range rows(values, n) {
				l = append(l, want(key, how, list...))
			}
		}
	}
	return l
}

// TestShortWants is of P7.1 and P7.2: all wants with up to two values, of all labels of up to three pairs of a few.
func TestShortWants(t *testing.T) {
	lists := rows(crossed([]string{"a", "b", ""}, []string{"", "1", "-"}), 3)
	for _, w := range someWants([]string{"a", "b", "", "-"}, []string{"", "1", "2", "-"}, 2) {
		s := selector(nil, w)
		says(t, label.Check(s), asCheck(s), "Check", s)
		for _, l := range lists {
			says(t, label.Wants(w, l), asWants(w, l), "Wants", w, l)
		}
		if t.Failed() {
			return
		}
	}
	for _, l := range lists {
		agree(t, selector(l), nil)
	}
}

// TestShortSelectors is of P7.1 and P7.2: all selectors of up to two pairs and two wants of a few, of all labels of up to two.
func TestShortSelectors(t *testing.T) {
	pairsOf := crossed([]string{"a", "b"}, []string{"", "1"})
	var wants []api.Want
	for _, w := range someWants([]string{"a", "b"}, []string{"", "1"}, 1) {
		if w.How != "in" {
			wants = append(wants, w)
		}
	}
	lists := rows(pairsOf, 2)
	for _, l := range lists {
		for _, asked := range rows(wants, 2) {
			for _, of := range lists {
				agree(t, selector(l, asked...), of)
			}
		}
		if t.Failed() {
			return
		}
	}
}

// TestFollows is of P7.3: what asks for more selects less, and each kind is what the other of its two is not.
func TestFollows(t *testing.T) {
	pairsOf := crossed([]string{"a", "b", "-"}, []string{"", "1", "2"})
	lists := rows(pairsOf, 2)
	wants := someWants([]string{"a", "b", ""}, []string{"", "1", "2"}, 2)
	selectors := []api.Selector{{}, selector(pairs("a", "1")), selector(nil, want("b", "Exists")), selector(pairs("b", "2"), want("a", "NotIn", "2")), selector(pairs("-", "", "a", "2"))}
	for _, l := range lists {
		for _, s := range selectors {
			was := label.Selects(s, l)
			for _, p := range pairsOf {
				more := selector(append(slices.Clone(s.Labels), p), s.Wants...)
				says(t, label.Selects(more, l), was && label.Selects(selector([]api.Pair{p}), l), "Selects", more, l)
			}
			for _, w := range wants {
				more := selector(s.Labels, append(slices.Clone(s.Wants), w)...)
				says(t, label.Selects(more, l), was && label.Wants(w, l), "Selects", more, l)
			}
		}
		for _, w := range wants {
			opposed(t, w, l)
		}
		if t.Failed() {
			return
		}
	}
}

// opposed holds the kinds of wants against each other, and a want against one with one more value.
func opposed(t *testing.T, w api.Want, l []api.Pair) {
	t.Helper()
	in, notIn := want(w.Key, "In", w.Values...), want(w.Key, "NotIn", w.Values...)
	says(t, label.Wants(notIn, l), !label.Wants(in, l), "Wants", notIn, l)
	there, gone := want(w.Key, "Exists", w.Values...), want(w.Key, "DoesNotExist", w.Values...)
	says(t, label.Wants(gone, l), !label.Wants(there, l), "Wants", gone, l)
	if label.Wants(in, l) && !label.Wants(there, l) {
		t.Errorf("%+q is in some values, and not there, of %+q", w.Key, l)
	}
	for at := range len(w.Values) + 1 {
		v, has := label.Has(l, w.Key)
		for _, one := range []string{"", "1", "-", v} {
			list := slices.Insert(slices.Clone(w.Values), at, one)
			is := label.Wants(in, l) || has && v == one
			says(t, label.Wants(want(w.Key, "In", list...), l), is, "Wants", w.Key, "In", list, l)
			says(t, label.Wants(want(w.Key, "NotIn", list...), l), !is, "Wants", w.Key, "NotIn", list, l)
		}
	}
}

// TestOrder is of P7.3: the order of labels that may be, of pairs, of wants and of values changes nothing.
func TestOrder(t *testing.T) {
	row := rand.New(rand.NewSource(7))
	told := 0
	for range 10000 {
		l, s := someLabels(row), someSelector(row)
		if !label.Labels(l) {
			continue
		}
		may, selects := label.Check(s), label.Selects(s, l)
		if selects {
			told++
		}
		for range 4 {
			l, s := mixed(row, l), selector(mixed(row, s.Labels), mixed(row, s.Wants)...)
			for i := range s.Wants {
				s.Wants[i].Values = mixed(row, s.Wants[i].Values)
			}
			says(t, label.Labels(l), true, "Labels", l)
			says(t, label.Check(s), may, "Check", s)
			says(t, label.Selects(s, l), selects, "Selects", s, l)
			for _, p := range l {
				has(t, l, p.Key, p.Value, true)
			}
		}
	}
	if told < 300 {
		t.Errorf("only %d of them were selected: too few to tell", told)
	}
}

// mixed is a list in another order.
func mixed[T any](row *rand.Rand, l []T) []T {
	l = slices.Clone(l)
	row.Shuffle(len(l), func(i, j int) { l[i], l[j] = l[j], l[i] })
	return l
}

// drawn is one of these.
func drawn(row *rand.Rand, of []string) string { return of[row.Intn(len(of))] }

// fewKeys and fewValues may be, but for the last one; most of those that are drawn from them are alike.
var (
	fewKeys   = []string{"a", "b", "c", "d", "e", "f", "a", "a.b/c", "A", "-"}
	fewValues = []string{"1", "2", "", "1", "1", "2", "1", "x_y", "1", "a b"}
)

// someLabels are up to six labels, by a fixed row of numbers.
func someLabels(row *rand.Rand) []api.Pair {
	var l []api.Pair
	for range row.Intn(7) {
		l = append(l, api.Pair{Key: drawn(row, fewKeys), Value: drawn(row, fewValues)})
	}
	return l
}

// someSelector has up to two pairs and three wants, by a fixed row of numbers.
func someSelector(row *rand.Rand) api.Selector {
	var s api.Selector
	for range row.Intn(3) {
		s.Labels = append(s.Labels, api.Pair{Key: drawn(row, fewKeys), Value: drawn(row, fewValues)})
	}
	for range row.Intn(4) {
		w := want(drawn(row, fewKeys), hows[row.Intn(4)])
		for range row.Intn(4) {
			w.Values = append(w.Values, drawn(row, fewValues))
		}
		s.Wants = append(s.Wants, w)
	}
	return s
}

// TestSome is of P7.1 and P7.2: longer labels and selectors.
func TestSome(t *testing.T) {
	row := rand.New(rand.NewSource(8))
	for range 20000 {
		agree(t, someSelector(row), someLabels(row))
		if t.Failed() {
			return
		}
	}
}

// roomy is a list with more behind its end, which nobody may write over.
func roomy[T any](l []T, behind T) []T {
	room := make([]T, len(l), len(l)+2)
	copy(room, l)
	whole := room[:len(l)+2]
	whole[len(l)], whole[len(l)+1] = behind, behind
	return room
}

// TestHandedIn is of R3: what is handed in stays as it is, and what is behind it, too.
func TestHandedIn(t *testing.T) {
	made := func() ([]api.Pair, api.Selector) {
		behind := api.Pair{Key: "behind", Value: "0"}
		l := roomy(pairs("b", "2", "a", "1", "b", "3", "-", "x y", "", ""), behind)
		in, notIn := want("b", "In"), want("a", "NotIn")
		in.Values = roomy([]string{"3", "2", "2", "-"}, "behind")
		notIn.Values = roomy([]string{"4", "", "3"}, "behind")
		s := selector(roomy(pairs("b", "2", "a", "1"), behind))
		s.Wants = roomy([]api.Want{notIn, in, want("c", "DoesNotExist"), want("a", "Exists")}, want("behind", "In"))
		return l, s
	}
	whole := func(l []api.Pair, s api.Selector) string {
		said := fmt.Sprintf("%+q %+q %+q", l[:cap(l)], s.Labels[:cap(s.Labels)], s.Wants[:cap(s.Wants)])
		for _, w := range s.Wants {
			said += fmt.Sprintf(" %+q", w.Values[:cap(w.Values)])
		}
		return said
	}
	l, s := made()
	before := whole(l, s)
	for _, list := range [][]api.Pair{l, s.Labels} {
		label.Labels(list)
		label.Check(s)
		label.Empty(s)
		says(t, label.Selects(s, list), true, "Selects", s, list)
		for _, w := range s.Wants {
			label.Wants(w, list)
		}
		for _, key := range []string{"a", "b", "c", ""} {
			label.Has(list, key)
		}
	}
	if got := whole(l, s); got != before {
		t.Errorf("what was handed in was changed: %s, want %s", got, before)
	}
	if other, of := made(); !reflect.DeepEqual(l, other) || !reflect.DeepEqual(s, of) {
		t.Errorf("what was handed in was changed: %q %q", l, s)
	}
}

// TestToldApart is of R3: what is told stays as it is, whatever its owner does with what was handed in.
func TestToldApart(t *testing.T) {
	l := pairs("a", "1", "b", "2")
	got, there := label.Has(l, "b")
	l[1], l[0] = api.Pair{Key: "b", Value: "3"}, api.Pair{}
	if got != "2" || !there {
		t.Errorf("what was told is %q, %v now", got, there)
	}
	has(t, l, "b", "3", true)
	has(t, l, "a", "", false)
	w := want("b", "In", "2")
	s := selector(nil, w)
	says(t, label.Selects(s, l), false, "Selects", s, l)
	w.Values[0] = "3"
	says(t, label.Selects(s, l), true, "Selects", s, l)
	l[1].Key = "c"
	says(t, label.Selects(s, l), false, "Selects", s, l)
}

// TestVeryLong is of P1 and R5: lists and texts far beyond what anybody labels with.
func TestVeryLong(t *testing.T) {
	const n = 200000
	l := make([]api.Pair, n)
	list := make([]string, n)
	for i := range l {
		list[i] = fmt.Sprint("v", i)
		l[i] = api.Pair{Key: fmt.Sprint("k", i), Value: list[i]}
	}
	first, last := l[0], l[n-1]
	says(t, label.Labels(l), true, "Labels of many")
	says(t, label.Labels(append(slices.Clone(l), first)), false, "Labels of many, the first one twice")
	says(t, label.Labels(append(slices.Clone(l), pairs("", "")...)), false, "Labels of many, the last one without key")
	has(t, l, last.Key, last.Value, true)
	has(t, l, "k", "", false)
	for _, v := range []string{list[0], list[n-1], "v"} {
		says(t, label.Wants(want("a", "In", list...), pairs("a", v)), v != "v", "Wants In of many", v)
		says(t, label.Wants(want("a", "NotIn", list...), pairs("a", v)), v == "v", "Wants NotIn of many", v)
	}
	s := selector([]api.Pair{first, last}, want(last.Key, "In", list...), want("k", "DoesNotExist"))
	says(t, label.Selects(s, l), true, "Selects of many")
	says(t, label.Check(s), true, "Check of many")
	says(t, label.Selects(selector(l), l[:1]), false, "Selects by many")
	says(t, label.Selects(selector(l[:3000]), l[:3000]), true, "Selects by many")
	wants := make([]api.Want, n)
	for i := range wants {
		wants[i] = want(first.Key, "In", first.Value)
	}
	says(t, label.Check(selector(nil, wants...)), true, "Check of many wants")
	says(t, label.Selects(selector(nil, wants...), l), true, "Selects by many wants")
	for _, b := range []string{"a", "-", "/", "\x00", "\xff"} {
		long := times(b, 1<<22)
		has(t, pairs(long+"b", "1", long, long), long, long, true)
		says(t, label.Labels(pairs(long, "1")), false, "Labels of a long key")
		says(t, label.Labels(pairs("a", long)), false, "Labels of a long value")
		says(t, label.Check(selector(nil, want("a", "In", long))), false, "Check of a long value")
		says(t, label.Check(selector(nil, want("a", long))), false, "Check of a long kind")
		says(t, label.Wants(want("a", long), pairs("a", "1")), false, "Wants of a long kind")
		says(t, label.Selects(selector(pairs(long, long), want(long, "In", "1", long)), pairs(long, long)), true, "Selects by a long key")
	}
}

// TestSame is of R4: the same calls have the same answers, whatever was asked between.
func TestSame(t *testing.T) {
	for range 3 {
		TestCheckWritten(t)
		TestWantsWritten(t)
		TestSelectsWritten(t)
		TestHas(t)
	}
}

// FuzzLabel is of P1 and P7.1 to P7.3: every call ends, and says what another reader says, whatever the texts are. A line is a pair (key=value), or a want (key=how=value=value).
func FuzzLabel(f *testing.F) {
	f.Add("a=1\nb=2", "a=1", "b=In=1=2\nc=DoesNotExist")
	f.Add("a=1\na=2\n=", "a=1\na=1", "a=NotIn\na=Exists=x\n-=in=1")
	f.Add("a/b=", "", "a/b=In=")
	f.Fuzz(func(t *testing.T, labels, selected, asked string) {
		var wants []api.Want
		for _, line := range strings.Split(asked, "\n") {
			parts := append(strings.Split(line, "="), "", "")
			wants = append(wants, want(parts[0], parts[1], parts[2:max(2, len(parts)-2)]...))
		}
		l, s := read(labels), selector(read(selected), wants...)
		agree(t, s, l)
		agree(t, selector(l, wants...), s.Labels)
		for _, w := range wants {
			opposed(t, w, l)
		}
	})
}

// read reads labels of lines.
func read(text string) []api.Pair {
	var l []api.Pair
	for _, line := range strings.Split(text, "\n") {
		key, value, _ := strings.Cut(line, "=")
		l = append(l, api.Pair{Key: key, Value: value})
	}
	return l
}
