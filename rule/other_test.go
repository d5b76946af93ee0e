package rule_test

import (
	"fmt"
	"math/rand"
	"reflect"
	"regexp"
	"slices"
	"strings"
	"testing"

	"vestibule/api"
	"vestibule/rule"
)

// Another reader of the chapter: words by regular expressions, and what is allowed by going through all that a rule is made of.
const (
	segmentText = `[!-$&-.0-~]{1,253}`
	plainText   = `[!-$&-)+-.0-~]{1,253}`
	labelText   = `[a-z0-9]([-a-z0-9]{0,61}[a-z0-9])?`
)

var (
	verbs     = regexp.MustCompile(`\A[a-z]{1,32}\z`)
	labels    = regexp.MustCompile(`\A` + labelText + `\z`)
	groups    = regexp.MustCompile(`\A` + labelText + `(\.` + labelText + `)*\z`)
	segments  = regexp.MustCompile(`\A` + segmentText + `\z`)
	resources = regexp.MustCompile(`\A(\*|` + plainText + `)(/` + plainText + `)?\z`)
	paths     = regexp.MustCompile(`\A/[!-~]{0,511}\z`)
	open      = regexp.MustCompile(`\A(\*|/[!-)+-~]{0,511}|/[!-)+-~]{0,510}\*)\z`)
)

func asSegment(s string) bool { return segments.MatchString(s) && s != "." && s != ".." }
func asGroup(s string) bool   { return s == "" || len(s) <= 253 && groups.MatchString(s) }

func asResource(s string) bool {
	for _, part := range strings.Split(s, "/") {
		if part == "." || part == ".." {
			return false
		}
	}
	return resources.MatchString(s)
}

// asList tells whether l has from least to 16 entries, each as may asks.
func asList(l []string, least int, may func(string) bool) bool {
	for _, s := range l {
		if !may(s) {
			return false
		}
	}
	return least <= len(l) && len(l) <= 16
}

func asCheck(r api.Rule, ofPaths bool) bool {
	none := func(string) bool { return false }
	star := func(may func(string) bool) func(string) bool {
		return func(s string) bool { return s == "*" || may(s) }
	}
	if !asList(r.Verbs, 1, star(verbs.MatchString)) {
		return false
	}
	if len(r.Paths) == 0 {
		return asList(r.Groups, 1, star(asGroup)) && asList(r.Resources, 1, asResource) && asList(r.Names, 0, asSegment)
	}
	others := slices.Concat(r.Groups, r.Resources, r.Names)
	return ofPaths && asList(r.Paths, 1, open.MatchString) && asList(others, 0, none)
}

func asAttr(a api.Attr) bool {
	if !verbs.MatchString(a.Verb) {
		return false
	}
	others := []string{a.Group, a.Resource, a.Part, a.Name, a.Namespace}
	if a.Path != "" {
		return strings.Join(others, "") == "" && paths.MatchString(a.Path)
	}
	for _, s := range []string{a.Part, a.Name} {
		if s != "" && !asSegment(s) {
			return false
		}
	}
	return asSegment(a.Resource) && asGroup(a.Group) && (a.Namespace == "" || labels.MatchString(a.Namespace))
}

// asOne tells whether one resource of a rule has what is asked for.
func asOne(s, resource, part string) bool {
	switch {
	case s == "*":
		return true
	case part == "":
		return s == resource
	case len(s) == len(part)+2 && s[:2] == "*/" && s[2:] == part:
		return true
	}
	return len(s) == len(resource)+1+len(part) && s[:len(resource)] == resource && s[len(resource)] == '/' && s[len(resource)+1:] == part
}

// asOpen tells whether one path of a rule has the one that is asked for.
func asOpen(s, path string) bool {
	if s == path {
		return true
	}
	n := len(s) - 1
	return n >= 0 && s[n] == '*' && len(path) >= n && path[:n] == s[:n]
}

// asAllows goes through all single things that a rule is made of.
func asAllows(r api.Rule, a api.Attr) bool {
	hits := 0
	for _, v := range r.Verbs {
		if v != a.Verb && v != "*" {
			continue
		}
		if a.Path != "" {
			for _, p := range r.Paths {
				if asOpen(p, a.Path) {
					hits++
				}
			}
			continue
		}
		for _, g := range r.Groups {
			for _, s := range r.Resources {
				if (g == a.Group || g == "*") && asOne(s, a.Resource, a.Part) {
					hits += asNames(r.Names, a.Name)
				}
			}
		}
	}
	return hits > 0
}

// asNames counts by which of its names a rule has that one.
func asNames(l []string, name string) int {
	if len(l) == 0 {
		return 1
	}
	n := 0
	for _, s := range l {
		if s == name && name != "" {
			n++
		}
	}
	return n
}

func asAny(l []api.Rule, a api.Attr) bool {
	n := 0
	for _, r := range l {
		if asAllows(r, a) {
			n++
		}
	}
	return n > 0
}

// agree holds all calls against the other reader.
func agree(t *testing.T, l []api.Rule, a api.Attr) {
	t.Helper()
	says(t, rule.Attr(a), asAttr(a), "Attr", a)
	says(t, rule.Any(l, a), asAny(l, a), "Any", l, a)
	for _, r := range l {
		says(t, rule.Check(r, false), asCheck(r, false), "Check", r, false)
		says(t, rule.Check(r, true), asCheck(r, true), "Check", r, true)
		says(t, rule.Allows(r, a), asAllows(r, a), "Allows", r, a)
		one := slices.ContainsFunc(r.Resources, func(s string) bool { return asOne(s, a.Resource, a.Part) })
		says(t, rule.Resource(r.Resources, a.Resource, a.Part), one, "Resource", r.Resources, a)
		says(t, rule.Path(r.Paths, a.Path), slices.ContainsFunc(r.Paths, func(s string) bool { return asOpen(s, a.Path) }), "Path", r.Paths, a)
	}
}

// rows are all rows of up to n of these, in all orders, with repeats.
func rows[T any](of []T, n int) [][]T {
	all := [][]T{nil}
	last := all
	for range n {
		var longer [][]T
		for _, row := range last {
			for _, v := range of {
				longer = append(longer, append(slices.Clone(row), v))
			}
		}
		all, last = append(all, longer...), longer
	}
	return all
}

// texts are all texts of up to n of these parts.
func texts(of string, n int) []string {
	var l []string
	for _, row := range rows(strings.Split(of, ""), n) {
		l = append(l, strings.Join(row, ""))
	}
	return l
}

// TestShortWords is of P8.1: all texts of up to six of the bytes that count, as each word of a rule, and in each field of what is asked for.
func TestShortWords(t *testing.T) {
	for _, s := range texts("a*/.-", 6) {
		l := []string{s}
		for _, r := range []api.Rule{
			{Verbs: l, Groups: list("''"), Resources: list("a")},
			{Verbs: list("a"), Groups: l, Resources: list("a")},
			{Verbs: list("a"), Groups: list("''"), Resources: l},
			{Verbs: list("a"), Groups: list("''"), Resources: list("a"), Names: l},
			{Verbs: l, Paths: list("/")},
			{Verbs: list("a"), Paths: l},
		} {
			checks(t, r, asCheck(r, false), asCheck(r, true))
		}
		for i := range 7 {
			for _, a := range []api.Attr{ask("a", "", "a", ""), askPath("a", "/"), {}} {
				*fields(&a)[i] = s
				says(t, rule.Attr(a), asAttr(a), "Attr", a)
			}
		}
		if t.Failed() {
			return
		}
	}
}

// TestShortLists is of P8.2: lists of up to two of all texts of a few bytes, asked for all such texts.
func TestShortLists(t *testing.T) {
	short := texts("a*/", 3)
	for _, l := range rows(short, 2) {
		for _, asked := range short {
			one := slices.ContainsFunc(l, func(s string) bool { return asOpen(s, asked) })
			says(t, rule.Path(l, asked), one, "Path", l, asked)
			for _, part := range []string{"", "a", "*", "/", "a/"} {
				one := slices.ContainsFunc(l, func(s string) bool { return asOne(s, asked, part) })
				says(t, rule.Resource(l, asked, part), one, "Resource", l, asked, part)
			}
		}
		if t.Failed() {
			return
		}
	}
}

// shortRules are all rules of these words: up to one in each list, and up to two in two of them.
func shortRules() []api.Rule {
	var l []api.Rule
	for _, verbs := range rows([]string{"get", "*", ""}, 1) {
		for _, groups := range rows([]string{"", "*", "apps"}, 1) {
			for _, resources := range rows([]string{"pods", "*", "pods/log", "*/log"}, 2) {
				for _, names := range rows([]string{"a", "", "*"}, 2) {
					l = append(l, api.Rule{Verbs: verbs, Groups: groups, Resources: resources, Names: names})
				}
			}
		}
		for _, paths := range rows([]string{"/a", "/a*", "*", "", "/a/*"}, 2) {
			l = append(l, api.Rule{Verbs: verbs, Paths: paths}, api.Rule{Verbs: verbs, Groups: []string{"*"}, Resources: []string{"*"}, Paths: paths})
		}
	}
	return l
}

// shortAttrs are all that is asked for, of a few words for each field.
func shortAttrs() []api.Attr {
	var l []api.Attr
	for _, verb := range []string{"get", "list", "*", ""} {
		for _, group := range []string{"", "apps", "*"} {
			for _, resource := range []string{"pods", "nodes", ""} {
				for _, part := range []string{"", "log", "x"} {
					for _, name := range []string{"", "a", "*"} {
						l = append(l, api.Attr{Verb: verb, Group: group, Resource: resource, Part: part, Name: name})
					}
				}
			}
		}
		for _, path := range []string{"/", "/a", "/ab", "/a/", "/a*", "b"} {
			l = append(l, askPath(verb, path), api.Attr{Verb: verb, Resource: "pods", Path: path})
		}
	}
	return l
}

// TestShortRules is of P8.1 and P8.2: all rules of a few words, asked for all that is made of a few, too.
func TestShortRules(t *testing.T) {
	attrs := shortAttrs()
	for _, r := range shortRules() {
		checks(t, r, asCheck(r, false), asCheck(r, true))
		for _, a := range attrs {
			if got, want := rule.Allows(r, a), asAllows(r, a); got != want {
				t.Errorf("Allows(%+q, %+q): %v, want %v", r, a, got, want)
			}
		}
		if t.Failed() {
			return
		}
	}
}

// few are words for each list of a rule, most of which may be.
var few = [5][]string{
	{"get", "list", "watch", "*", "get", "list", "create", "Get"},
	{"", "apps", "*", "batch", "", "a..b"},
	{"pods", "pods/log", "*/status", "*", "nodes", "pods", "nodes/status", "pods/*"},
	{"a", "b", "c", "*", "a", ""},
	{"/a", "/a/*", "/b*", "*", "/", "/a*b"},
}

// drawn is one of these.
func drawn(row *rand.Rand, of []string) string { return of[row.Intn(len(of))] }

// someRule is a rule of few words, by a fixed row of numbers: of resources, of paths, or now and then of both.
func someRule(row *rand.Rand) api.Rule {
	var r api.Rule
	kind := row.Intn(9)
	for i, x := range lists(&r) {
		if kind < 5 && i == 4 || 5 <= kind && kind < 8 && 1 <= i && i <= 3 {
			continue
		}
		n := row.Intn(4)
		if row.Intn(40) == 0 {
			n = 14 + row.Intn(5)
		}
		for range n {
			*x.l = append(*x.l, drawn(row, few[i]))
		}
	}
	return r
}

// someRules are up to four rules.
func someRules(row *rand.Rand) []api.Rule {
	var l []api.Rule
	for range row.Intn(5) {
		l = append(l, someRule(row))
	}
	return l
}

// someAttr is what is asked for, by a fixed row of numbers.
func someAttr(row *rand.Rand) api.Attr {
	if row.Intn(3) == 0 {
		return askPath(drawn(row, few[0]), drawn(row, []string{"/", "/a", "/a/", "/a/b", "/b", "/bb", "/c", "b"}))
	}
	a := ask(drawn(row, few[0]), drawn(row, few[1]), drawn(row, few[2]), "")
	if row.Intn(2) == 0 {
		a.Name = drawn(row, few[3])
	}
	a.Namespace = drawn(row, []string{"", "", "n", "-"})
	return a
}

// TestSome is of P8.1 and P8.2: longer rules, and several of them.
func TestSome(t *testing.T) {
	row := rand.New(rand.NewSource(8))
	told := [2]int{}
	for range 40000 {
		l, a := someRules(row), someAttr(row)
		agree(t, l, a)
		if rule.Any(l, a) {
			told[0]++
		} else {
			told[1]++
		}
		if t.Failed() {
			return
		}
	}
	if told[0] < 2000 || told[1] < 2000 {
		t.Errorf("only %d were allowed, and %d not: too few to tell", told[0], told[1])
	}
}

// more are rules with one more word in one list, at each of its places.
func more(r api.Rule, i int) []api.Rule {
	var l []api.Rule
	was := *lists(&r)[i].l
	for at := range len(was) + 1 {
		for _, word := range few[i] {
			*lists(&r)[i].l = put(was, at, word)
			l = append(l, r)
		}
	}
	return l
}

// TestFollowsMore is of P8.3: one more verb, group, resource or path allows all that was allowed; and one more name, if there are some.
func TestFollowsMore(t *testing.T) {
	row := rand.New(rand.NewSource(83))
	told := 0
	for range 20000 {
		r, a := someRule(row), someAttr(row)
		if !rule.Allows(r, a) {
			continue
		}
		told++
		for i := range 5 {
			if i == 3 && len(r.Names) == 0 {
				continue
			}
			for _, with := range more(r, i) {
				says(t, rule.Allows(with, a), true, "Allows", with, a)
				says(t, rule.Any([]api.Rule{{}, with, {}}, a), true, "Any", with, a)
			}
		}
	}
	if told < 300 {
		t.Errorf("only %d were allowed: too few to tell", told)
	}
}

// TestFollowsNames is of P8.3: with some names a rule allows less than without: nothing that it didn't, and not all that it did.
func TestFollowsNames(t *testing.T) {
	attrs := shortAttrs()
	for _, r := range shortRules() {
		if len(r.Names) == 0 {
			continue
		}
		without := r
		without.Names = nil
		lost := 0
		for _, a := range attrs {
			with, was := rule.Allows(r, a), rule.Allows(without, a)
			if with && !was {
				t.Fatalf("%+q allows %+q, and doesn't without names", r, a)
			}
			if was && !with {
				lost++
			}
			if a.Name == "" && a.Path == "" && with {
				t.Fatalf("%+q allows %+q, which asks for all names", r, a)
			}
		}
		if lost == 0 && asAny([]api.Rule{without}, ask("get", "", "pods", "")) {
			t.Fatalf("%+q allows all that it does without names", r)
		}
	}
}

// TestOrder is of P8.2: the order of rules, and of words in their lists, and those that are there twice, change nothing.
func TestOrder(t *testing.T) {
	row := rand.New(rand.NewSource(9))
	for range 5000 {
		l, a := someRules(row), someAttr(row)
		allowed := rule.Any(l, a)
		mixed := append(slices.Clone(l), l...)
		row.Shuffle(len(mixed), func(i, j int) { mixed[i], mixed[j] = mixed[j], mixed[i] })
		for i := range mixed {
			may := rule.Check(mixed[i], true)
			for _, x := range lists(&mixed[i]) {
				*x.l = slices.Clone(*x.l)
				row.Shuffle(len(*x.l), func(i, j int) { (*x.l)[i], (*x.l)[j] = (*x.l)[j], (*x.l)[i] })
			}
			says(t, rule.Check(mixed[i], true), may, "Check", mixed[i])
		}
		says(t, rule.Any(mixed, a), allowed, "Any", mixed, a)
	}
}

// roomy is a list with more behind its end, which nobody may write over.
func roomy[T any](l []T, behind T) []T {
	room := make([]T, len(l), len(l)+2)
	copy(room, l)
	whole := room[:len(l)+2]
	whole[len(l)], whole[len(l)+1] = behind, behind
	return room
}

// TestHandedIn is of R3: what is handed in stays as it is, and what is behind it, too.
func TestHandedIn(t *testing.T) {
	made := func() []api.Rule {
		l := roomy([]api.Rule{of("list *", "'' apps", "pods */log nodes", "b a"), at("post get", "/b /a*"), {}, of("- ''", "*", "a/b/c", "")}, of("behind", "", "", ""))
		for i := range l {
			for _, x := range lists(&l[i]) {
				if *x.l != nil {
					*x.l = roomy(*x.l, "behind")
				}
			}
		}
		return l
	}
	whole := func(l []api.Rule) string {
		said := fmt.Sprintf("%+q", l[:cap(l)])
		for _, r := range l {
			for _, x := range lists(&r) {
				said += fmt.Sprintf(" %+q", (*x.l)[:cap(*x.l)])
			}
		}
		return said
	}
	l := made()
	before := whole(l)
	for _, a := range []api.Attr{ask("get", "apps", "pods/log", "a"), askPath("get", "/ab"), {}, ask("-", "", "a/b", "")} {
		rule.Attr(a)
		rule.Any(l, a)
		for _, r := range l {
			rule.Check(r, true)
			rule.Check(r, false)
			rule.Allows(r, a)
			rule.Resource(r.Resources, a.Resource, a.Part)
			rule.Path(r.Paths, a.Path)
		}
	}
	if got := whole(l); got != before {
		t.Errorf("what was handed in was changed: %s, want %s", got, before)
	}
	if other := made(); !reflect.DeepEqual(l, other) {
		t.Errorf("what was handed in was changed: %q", l)
	}
}

// TestKeepsNothing is of R3 and R4: what was asked before counts no more when its owner has changed it.
func TestKeepsNothing(t *testing.T) {
	r := of("get", "''", "pods", "a")
	l := []api.Rule{r}
	a := ask("get", "", "pods", "a")
	for range 3 {
		says(t, rule.Any(l, a), true, "Any", l, a)
		r.Verbs[0] = "list"
		says(t, rule.Any(l, a), false, "Any", l, a)
		says(t, rule.Check(l[0], false), true, "Check", l)
		r.Verbs[0] = "-"
		says(t, rule.Check(l[0], false), false, "Check", l)
		r.Verbs[0], r.Names[0] = "*", "b"
		says(t, rule.Any(l, a), false, "Any", l, a)
		r.Names[0], r.Resources[0] = "a", "*/log"
		says(t, rule.Any(l, a), false, "Any", l, a)
		r.Resources[0] = "*"
		says(t, rule.Any(l, a), true, "Any", l, a)
		r.Verbs[0], r.Resources[0] = "get", "pods"
	}
}

// TestVeryLong is of P1 and R5: lists and texts far beyond what any rule has.
func TestVeryLong(t *testing.T) {
	const n = 200000
	var l []string
	var rules []api.Rule
	for i := range n {
		l = append(l, fmt.Sprint("v", i))
		rules = append(rules, of("get", "''", fmt.Sprint("v", i), ""))
	}
	last := l[n-1]
	long := api.Rule{Verbs: l, Groups: l, Resources: l, Names: l, Paths: l}
	says(t, rule.Check(long, true), false, "Check of long lists")
	says(t, rule.Allows(long, ask(last, last, last, last)), true, "Allows of long lists")
	says(t, rule.Allows(long, ask(last, last, last, "v")), false, "Allows of long lists")
	says(t, rule.Allows(long, askPath(last, last)), true, "Allows of long lists")
	says(t, rule.Path(l, "v"), false, "Path of a long list")
	says(t, rule.Resource(l, last, "x"), false, "Resource of a long list")
	says(t, rule.Any(rules, ask("get", "", last, "")), true, "Any of many")
	says(t, rule.Any(rules, ask("get", "", "v", "")), false, "Any of many")
	for _, b := range []string{"a", "*", "/", ".", "\x00", "\xff"} {
		s := times(b, 1<<22)
		one := []string{s}
		r := api.Rule{Verbs: one, Groups: one, Resources: one, Names: one, Paths: one}
		says(t, rule.Check(r, true), false, "Check of long words")
		for i := range 5 {
			r := of("get", "''", "pods", "a")
			*lists(&r)[i].l = one
			checks(t, r, false, false)
		}
		checks(t, api.Rule{Verbs: list("get"), Paths: one}, false, false)
		says(t, rule.Allows(r, api.Attr{Verb: s, Group: s, Resource: s, Name: s}), true, "Allows of long words")
		says(t, rule.Allows(r, api.Attr{Verb: s, Path: s}), true, "Allows of a long path")
		says(t, rule.Path(one, s[1:]), b == "*", "Path of a long word")
		says(t, rule.Path([]string{s + "*"}, s+s), true, "Path of a long word")
		says(t, rule.Resource([]string{s + "/" + s}, s, s), true, "Resource of long words")
		says(t, rule.Resource([]string{"*/" + s}, "a", s), true, "Resource of a long part")
		for i := range 7 {
			a := ask("get", "", "pods/log", "a")
			*fields(&a)[i] = s
			says(t, rule.Attr(a), false, "Attr of a long word", i)
		}
		says(t, rule.Attr(askPath("get", "/"+s)), false, "Attr of a long path")
	}
}

// TestSame is of R4: the same calls have the same answers, whatever was asked between.
func TestSame(t *testing.T) {
	for range 3 {
		TestCheckWritten(t)
		TestAttrWritten(t)
		TestResource(t)
		TestPath(t)
		TestAllowsResources(t)
		TestAny(t)
	}
}

// FuzzRule is of P1 and P8.1 to P8.3: every call ends, and says what another reader says, whatever the texts are. A line is a rule: its lists with | between, their words with a comma; what is asked for is seven fields with | between.
func FuzzRule(f *testing.F) {
	f.Add("get,*|,apps|pods,*/log|a|\n*||||/a,/b*", "get||pods|log|a|n|")
	f.Add("||||\n*|*|*||*", "get||||||/a")
	f.Add("get||pods/log/x||/**", "get||pods|log/x|||")
	f.Fuzz(func(t *testing.T, rules, asked string) {
		var l []api.Rule
		for _, line := range strings.Split(rules, "\n") {
			var r api.Rule
			parts := append(strings.Split(line, "|"), "", "", "", "")
			for i, x := range lists(&r) {
				if parts[i] != "" {
					*x.l = strings.Split(parts[i], ",")
				}
			}
			l = append(l, r)
		}
		var a api.Attr
		parts := append(strings.Split(asked, "|"), "", "", "", "", "", "")
		for i, field := range fields(&a) {
			*field = parts[i]
		}
		agree(t, l, a)
		for _, r := range l {
			for i := range 5 {
				if (i != 3 || len(r.Names) > 0) && rule.Allows(r, a) {
					with := r
					x := lists(&with)[i]
					*x.l = put(*x.l, 0, asked)
					says(t, rule.Allows(with, a), true, "Allows", with, a)
				}
			}
			r.Names = nil
			says(t, rule.Any(append(slices.Clone(l), r), a), rule.Any(l, a) || rule.Allows(r, a), "Any", l, r, a)
		}
	})
}
