package rule_test

import (
	"fmt"
	"slices"
	"strings"
	"testing"

	"vestibule/api"
	"vestibule/rule"
)

// list is a list of words with spaces between; two quotes stand for the empty one.
func list(words string) []string {
	l := strings.Fields(words)
	for i := range l {
		if l[i] == "''" {
			l[i] = ""
		}
	}
	return l
}

// of is a rule of resources.
func of(verbs, groups, resources, names string) api.Rule {
	return api.Rule{Verbs: list(verbs), Groups: list(groups), Resources: list(resources), Names: list(names)}
}

// at is a rule of paths.
func at(verbs, paths string) api.Rule {
	return api.Rule{Verbs: list(verbs), Paths: list(paths)}
}

// ask asks for a resource: its group, itself or with a part (a/b), and its name.
func ask(verb, group, resource, name string) api.Attr {
	whole, part, _ := strings.Cut(resource, "/")
	return api.Attr{Verb: verb, Group: group, Resource: whole, Part: part, Name: name}
}

// askPath asks for a path.
func askPath(verb, path string) api.Attr {
	return api.Attr{Verb: verb, Path: path}
}

// times is s, n times.
func times(s string, n int) string { return strings.Repeat(s, n) }

// many is a list of n times the same.
func many(s string, n int) []string { return slices.Repeat([]string{s}, n) }

// put is l with one more before its place i.
func put[T any](l []T, i int, one T) []T { return slices.Insert(slices.Clone(l), i, one) }

// says holds a call's answer against what is written here.
func says(t *testing.T, got, want bool, call string, args ...any) {
	t.Helper()
	if got != want {
		t.Errorf("%s(%.300s): %v, want %v", call, fmt.Sprintf("%+q", args), got, want)
	}
}

// checks holds both ways of Check against what is written here.
func checks(t *testing.T, r api.Rule, resources, paths bool) {
	t.Helper()
	says(t, rule.Check(r, false), resources, "Check", r, false)
	says(t, rule.Check(r, true), resources || paths, "Check", r, true)
}

// The words that may stand in each list of a rule, and some that may not, as chapters 3 and 8 write them.
var (
	someVerbs     = []string{"*", "a", "z", "get", "list", "impersonate", times("v", 32)}
	noVerbs       = []string{"", "Get", "GET", "get1", "1", "get-all", "get list", " get", "get ", "get\n", "g*", "*g", "**", "get*", "*/get", "get/log", "g\x00t", "\xc3\xa9", "\xff", times("v", 33), times("*", 32)}
	someGroups    = []string{"*", "", "a", "0", "apps", "rbac.authorization.k8s.io", "a-b.c", times("g", 63), times("a.", 126) + "a"}
	noGroups      = []string{" ", ".", "-", "A", "Apps", "a..b", ".a", "a.", "-a", "a-", "a/b", "a_b", "*.a", "a.*", "a*", "**", "* ", "a b", "a\n", "\x00", "\xc3\xa9", "\xff", times("g", 64), times("a.", 126) + "bc"}
	someResources = []string{"*", "pods", "Pods", "-", "_", "a.b", "...", "a:b", "~", "!", "pods/log", "*/status", "*/a", "a/...", "-/-", times("r", 253), times("r", 253) + "/" + times("p", 253), "*/" + times("p", 253)}
	noResources   = []string{"", " ", ".", "..", "/", "**", "a*", "*a", "a*b", "/log", "pods/", "*/", "/*", "*/*", "pods/*", "pods/a*", "a*/log", "**/log", "a/b/c", "a//b", "//", "*//a", "a/b/", "*/a/b", "*/*/a", "./a", "a/.", "../a", "a/..", "*/.", "*/..", "a%b", "%", "a/%", "a b", "a/b c", "a\n", "a\x7f", "\x20a", "\xc3\xa9", "\xff", "a/\xff", times("r", 254), times("r", 254) + "/a", "a/" + times("p", 254), "*/" + times("p", 254)}
	someNames     = []string{"*", "a", "A", "a.b", "...", "-", "_", "a*", "*a", "**", "a:b", "~", "!", times("n", 253)}
	noNames       = []string{"", " ", ".", "..", "/", "a/b", "*/a", "a%", "%", "a b", " a", "a\n", "\x00", "a\x7f", "\xc3\xa9", "\xff", times("n", 254)}
	somePaths     = []string{"*", "/", "/*", "/a", "/a*", "/a/*", "/a/b/", "//", "/%", "/a%2e", "/..", "/!~", "/healthz", "/apis/*", "/" + times("p", 511), "/" + times("p", 510) + "*"}
	noPaths       = []string{"", " ", "a", "a/", "**", "*/", "*/a", "*a", "a*", "/**", "/*/", "/*/a", "/a*b", "/a/*/b", "/a**", "/*a*", "/ ", "/a b", " /a", "/a\n", "/a\x7f", "/\x00", "/\xc3\xa9", "/\xff", "\xff", "/" + times("p", 512), "/" + times("p", 511) + "*"}
)

// TestCheckWritten is of P8.1: rules that may be, and others, written out.
func TestCheckWritten(t *testing.T) {
	for _, r := range []api.Rule{
		of("get", "''", "pods", ""),
		of("get list watch", "'' apps", "pods pods/log */status", "a b"),
		of("*", "*", "*", ""),
		of("* get", "* apps ''", "* pods */log pods/log", "*"),
		of("get get", "'' ''", "pods pods", "a a"),
		{Verbs: list("get"), Groups: list("apps"), Resources: list("pods"), Names: []string{}, Paths: []string{}},
	} {
		checks(t, r, true, false)
	}
	for _, r := range []api.Rule{
		at("get", "/healthz"),
		at("get post", "/ /* /apis/* *"),
		at("*", "*"),
		at("get get", "/a /a"),
		{Verbs: list("get"), Groups: []string{}, Resources: []string{}, Names: []string{}, Paths: list("/a")},
	} {
		checks(t, r, false, true)
	}
	for _, r := range []api.Rule{
		{},
		{Verbs: []string{}, Groups: []string{}, Resources: []string{}, Names: []string{}, Paths: []string{}},
		of("get", "", "", ""),
		of("get", "''", "", ""),
		of("get", "", "pods", ""),
		of("get", "", "", "a"),
		of("", "''", "pods", ""),
		of("''", "''", "pods", ""),
		of("get", "''", "''", ""),
		of("get", "''", "pods", "''"),
		of("Get", "''", "pods", ""),
		of("get", "a..b", "pods", ""),
		of("get", "''", "pods/*", ""),
		of("get", "''", "pods", "a/b"),
		at("", "/a"),
		at("''", "/a"),
		at("get", "''"),
		at("get", "a"),
		at("get", "/a*b"),
	} {
		checks(t, r, false, false)
	}
}

// TestCheckKinds is of P8.1: each list with something, and with nothing, in all ways.
func TestCheckKinds(t *testing.T) {
	for n := range 1 << 5 {
		for _, empty := range [][]string{nil, {}} {
			there := func(bit int, l string) []string {
				if n>>bit&1 == 1 {
					return list(l)
				}
				return empty
			}
			r := api.Rule{Verbs: there(0, "get"), Groups: there(1, "''"), Resources: there(2, "pods"), Names: there(3, "a"), Paths: there(4, "/a")}
			resources := n == 0b00111 || n == 0b01111
			checks(t, r, resources, n == 0b10001)
		}
	}
}

// words are one list of a rule, with the words that may stand there, and some that may not.
type words struct {
	l        *[]string
	some, no []string
}

// lists are the lists of a rule, in the order of api.
func lists(r *api.Rule) []words {
	return []words{
		{&r.Verbs, someVerbs, noVerbs},
		{&r.Groups, someGroups, noGroups},
		{&r.Resources, someResources, noResources},
		{&r.Names, someNames, noNames},
		{&r.Paths, somePaths, noPaths},
	}
}

// TestCheckSizes is of P8.1: each list with nothing, with one, and with more, up to beyond 16.
func TestCheckSizes(t *testing.T) {
	for i := range 5 {
		for _, n := range []int{0, 1, 2, 3, 15, 16, 17, 18, 32, 256, 257, 65536 + 1} {
			some := 1 <= n && n <= 16
			r := of("get", "''", "pods", "a")
			x := lists(&r)[i]
			*x.l = many(x.some[1], n)
			checks(t, r, i < 3 && some || i == 3 && n <= 16 || i == 4 && n == 0, false)
			r = at("get", "/a")
			x = lists(&r)[i]
			*x.l = many(x.some[1], n)
			checks(t, r, false, (i == 0 || i == 4) && some || i != 0 && i != 4 && n == 0)
			r = of("get", "''", "pods", "")
			x = lists(&r)[i]
			*x.l = make([]string, n)
			checks(t, r, i == 1 && some || i > 2 && n == 0, false)
		}
	}
	full := api.Rule{Verbs: many("get", 16), Groups: many("", 16), Resources: many("pods", 16), Names: many("a", 16)}
	checks(t, full, true, false)
	checks(t, api.Rule{Verbs: many("get", 16), Paths: many("/a", 16)}, false, true)
}

// TestCheckWords is of P8.1: each word that may be, or may not, alone, first, last and between, in its list.
func TestCheckWords(t *testing.T) {
	for i := range 5 {
		base := of("get", "''", "pods", "a")
		if i == 4 {
			base = at("get", "/a")
		}
		x := lists(&base)[i]
		for _, word := range append(slices.Clone(x.some), x.no...) {
			may := slices.Contains(x.some, word)
			for _, l := range [][]string{{word}, {word, word}, put(x.some[:3], 0, word), put(x.some[:3], 1, word), put(x.some[:3], 3, word), put(many(x.some[1], 15), 15, word)} {
				*x.l = l
				checks(t, base, may && i < 4, may && i == 4)
			}
		}
	}
}

// TestCheckVerbsOfPaths is of P8.1: the verbs of rules of paths are those of any rule.
func TestCheckVerbsOfPaths(t *testing.T) {
	for _, word := range append(slices.Clone(someVerbs), noVerbs...) {
		for _, l := range [][]string{{word}, {"get", word}, {word, "*"}} {
			checks(t, api.Rule{Verbs: l, Paths: list("/a")}, false, slices.Contains(someVerbs, word))
		}
	}
}

// TestCheckBytes is of P8.1: each byte within a word of each list.
func TestCheckBytes(t *testing.T) {
	for b := range 256 {
		word := "a" + string([]byte{byte(b)}) + "a"
		letter := 'a' <= b && b <= 'z'
		seen := 0x21 <= b && b <= 0x7e
		segment := seen && b != '/' && b != '%'
		small := letter || '0' <= b && b <= '9'
		checks(t, api.Rule{Verbs: []string{word}, Groups: list("''"), Resources: list("a")}, letter, false)
		checks(t, api.Rule{Verbs: list("get"), Groups: []string{word}, Resources: list("a")}, small || b == '-' || b == '.', false)
		checks(t, api.Rule{Verbs: list("get"), Groups: list("''"), Resources: []string{word}}, segment && b != '*' || b == '/', false)
		checks(t, api.Rule{Verbs: list("get"), Groups: list("''"), Resources: []string{"*/" + word}}, segment && b != '*', false)
		checks(t, api.Rule{Verbs: list("get"), Groups: list("''"), Resources: []string{word + "/a"}}, segment && b != '*', false)
		checks(t, api.Rule{Verbs: list("get"), Groups: list("''"), Resources: list("a"), Names: []string{word}}, segment, false)
		checks(t, api.Rule{Verbs: list("get"), Paths: []string{"/" + word}}, false, seen && b != '*')
		checks(t, api.Rule{Verbs: list("get"), Paths: []string{"/" + word[:2]}}, false, seen)
		checks(t, api.Rule{Verbs: list("get"), Paths: []string{word[1:]}}, false, b == '/')
	}
}

// TestAttrWritten is of P8.1: what may be asked for, and what may not, written out.
func TestAttrWritten(t *testing.T) {
	for _, a := range []api.Attr{
		ask("get", "", "pods", ""),
		ask("get", "apps", "pods/log", "a"),
		ask("get", "", "pods", "a"),
		ask("get", "", "pods/log", ""),
		ask("get", "a.b", "*", "*"),
		{Verb: "get", Resource: "pods", Part: "*", Namespace: "n"},
		{Verb: "get", Group: "apps", Resource: "pods", Part: "log", Name: "a", Namespace: "n"},
		askPath("get", "/"),
		askPath("post", "/a/b"),
		askPath("get", "/*"),
		askPath("get", "/a*b%"),
	} {
		says(t, rule.Attr(a), true, "Attr", a)
	}
	for _, a := range []api.Attr{
		{},
		{Verb: "get"},
		{Resource: "pods"},
		{Path: "/a"},
		{Verb: "*", Resource: "pods"},
		{Verb: "*", Path: "/a"},
		{Verb: "get", Part: "log"},
		{Verb: "get", Name: "a"},
		{Verb: "get", Group: "apps"},
		{Verb: "get", Namespace: "n"},
		{Verb: "get", Group: "apps", Part: "log", Name: "a", Namespace: "n"},
		{Verb: "get", Resource: "pods", Path: "/a"},
		{Verb: "get", Group: "apps", Path: "/a"},
		{Verb: "get", Part: "log", Path: "/a"},
		{Verb: "get", Name: "a", Path: "/a"},
		{Verb: "get", Namespace: "n", Path: "/a"},
		{Verb: "get", Group: "apps", Resource: "pods", Part: "log", Name: "a", Namespace: "n", Path: "/a"},
		{Verb: "get", Resource: "pods", Path: "a"},
		{Verb: "get", Path: "a"},
		{Verb: "get", Path: "*"},
		{Verb: "get", Group: "*", Resource: "pods"},
		{Verb: "get", Resource: "pods", Namespace: "*"},
		{Verb: "get", Resource: "pods/log"},
		{Verb: "get", Resource: "*/log"},
	} {
		says(t, rule.Attr(a), false, "Attr", a)
	}
}

// fields are the fields of what is asked for, in the order of api.
func fields(a *api.Attr) []*string {
	return []*string{&a.Verb, &a.Group, &a.Resource, &a.Part, &a.Name, &a.Namespace, &a.Path}
}

// without are all of l but these.
func without(l []string, but ...string) []string {
	return slices.DeleteFunc(slices.Clone(l), func(s string) bool { return slices.Contains(but, s) })
}

// TestAttrFields is of P8.1: each field as it may be, and as it may not, beside others that may be.
func TestAttrFields(t *testing.T) {
	bases := []api.Attr{ask("get", "", "pods", ""), ask("list", "apps", "pods/log", "a"), {Verb: "get", Resource: "pods", Name: "a", Namespace: "n"}}
	for i, x := range []struct{ some, no []string }{
		{without(someVerbs, "*"), put(noVerbs, 0, "*")},
		{without(someGroups, "*"), put(noGroups, 0, "*")},
		{someNames, noNames},
		{append(slices.Clone(someNames), ""), without(noNames, "")},
		{append(slices.Clone(someNames), ""), without(noNames, "")},
		{[]string{"", "a", "0", "a-b", times("n", 63)}, []string{" ", "*", "-", ".", "A", "a.b", "-a", "a-", "a_b", "a/b", "a b", "a\n", "\x00", "\xc3\xa9", "\xff", times("n", 64)}},
		{[]string{""}, somePaths},
	} {
		for _, a := range bases {
			for _, word := range x.some {
				*fields(&a)[i] = word
				says(t, rule.Attr(a), true, "Attr", a)
			}
			for _, word := range x.no {
				*fields(&a)[i] = word
				says(t, rule.Attr(a), false, "Attr", a)
			}
		}
	}
}

// TestAttrPaths is of P8.1: a path with all that may be one, and with each of the others.
func TestAttrPaths(t *testing.T) {
	// A star is a byte like others in what is asked for.
	maybe := append(without(somePaths, "*"), "/**", "/*/", "/*/a", "/a*b", "/a/*/b", "/a**", "/*a*")
	for _, p := range append(slices.Clone(somePaths), noPaths...) {
		says(t, rule.Attr(askPath("get", p)), slices.Contains(maybe, p), "Attr", "get", p)
	}
	for _, p := range maybe {
		for _, verb := range append(slices.Clone(someVerbs), noVerbs...) {
			says(t, rule.Attr(askPath(verb, p)), verb != "*" && slices.Contains(someVerbs, verb), "Attr", verb, p)
		}
		for i := range 5 {
			for _, word := range []string{"a", "-", "*", " ", "/a"} {
				a := askPath("get", p)
				*fields(&a)[i+1] = word
				says(t, rule.Attr(a), false, "Attr", a)
			}
		}
	}
}

// TestResource is of P8.2: resources and their parts, of lists that are written out.
func TestResource(t *testing.T) {
	for _, w := range []struct{ l, yes, no string }{
		{"", "", "pods pods/log * */log"},
		{"pods", "pods", "pods/log pod podss Pods * log */pods"},
		{"pods/log", "pods/log", "pods log pods/lo pods/logs pod/log Pods/log pods/status */log services/log"},
		{"*", "pods pods/log services services/status * */log", ""},
		{"*/status", "pods/status services/status */status", "pods status pods/log services * pods/statu"},
		{"*/log */status", "pods/log pods/status services/log", "pods pods/exec log"},
		{"pods pods/log", "pods pods/log", "services services/log pods/exec"},
		{"services pods/log", "services pods/log", "pods services/log"},
		{"services pods", "services pods", "pods/log secrets"},
		{"services *", "pods secrets/x", ""},
		{"* services", "pods secrets/x", ""},
		{"pods */log services", "pods services pods/log services/log secrets/log", "secrets pods/x"},
		{"p* *s */* pods/* **", "p* *s pods/* a/* ** */*", "pods services pods/log pp */log"},
		{"*/", "", "pods */log pods/log"},
		{"/log", "", "pods pods/log log"},
		{"pods/log/x */a/b", "pods/log/x pods/a/b services/a/b", "pods pods/log pods/x pods/a"},
	} {
		for _, asked := range list(w.yes) {
			whole, part, _ := strings.Cut(asked, "/")
			says(t, rule.Resource(list(w.l), whole, part), true, "Resource", w.l, asked)
		}
		for _, asked := range list(w.no) {
			whole, part, _ := strings.Cut(asked, "/")
			says(t, rule.Resource(list(w.l), whole, part), false, "Resource", w.l, asked)
		}
	}
	for _, w := range []struct {
		l, whole, part string
		told           bool
	}{
		{"''", "", "", true}, {"", "", "", false}, {"pods", "", "", false}, {"*", "", "", true}, {"*", "", "log", true},
		{"pods/log", "pods/log", "", true}, {"*/log", "pods/log", "", false}, {"*/log", "*/log", "", true},
		{"/log", "", "log", true}, {"*/log", "", "log", true}, {"pods/", "pods/", "", true}, {"pods/", "pods", "", false},
		{"a/b/c", "a/b", "c", true}, {"a/b/c", "a", "b/c", true}, {"a/b/c", "a/b/c", "", true}, {"*/b/c", "a", "b/c", true}, {"*/c", "a/b", "c", true}, {"*/b", "a/b", "c", false},
		{"\xff/\xfe", "\xff", "\xfe", true}, {"\xff/\xfe", "\xff", "\xff", false}, {"*/\xfe", "\xff", "\xfe", true},
	} {
		says(t, rule.Resource(list(w.l), w.whole, w.part), w.told, "Resource", w.l, w.whole, w.part)
	}
}

// TestPath is of P8.2: paths, of lists that are written out.
func TestPath(t *testing.T) {
	for _, w := range []struct{ l, yes, no string }{
		{"", "", "'' / * /a"},
		{"/a", "/a", "'' / /ab /a/ /A a /a* *"},
		{"/a*", "/a /ab /a/ /a/b /a* /a**", "'' / /b /A /b/a a * *a"},
		{"/a/*", "/a/ /a/b /a/b/c /a/* /a//", "/a /ab /a* /b/a/ '' /"},
		{"/ab*", "/ab /abc /ab/", "/a /b /aab /ac"},
		{"/*", "/ /a /* /a/b //", "'' a * a/"},
		{"*", "'' / /a * a /a/b \xff", ""},
		{"**", "* ** *a", "'' / /a a"},
		{"/a**", "/a* /a** /a*b", "/a /ab /"},
		{"/a*b", "/a*b", "/a /ab /axb /a* /a*bc"},
		{"/a*b*", "/a*b /a*bc", "/a /ab /axb /a*"},
		{"*/a", "*/a", "/a /b/a */ab"},
		{"''", "''", "/ /a *"},
		{"a*", "a ab a/", "/a '' b"},
		{"/a /b/* /c", "/a /b/ /b/x /c", "/b /ab /cc /a/ /c/x"},
		{"/a *", "/a /b ''", ""},
		{"* /a", "/a /b ''", ""},
		{"/a* /b", "/ab /a /b", "/bb /c /"},
		{"/b /a*", "/ab /a /b", "/bb /c /"},
		{"/abc* /ab", "/ab /abc /abcd", "/a /abd"},
		{"/\xff*", "/\xff /\xff\xfe", "/ /\xfe"},
	} {
		for _, asked := range list(w.yes) {
			says(t, rule.Path(list(w.l), asked), true, "Path", w.l, asked)
		}
		for _, asked := range list(w.no) {
			says(t, rule.Path(list(w.l), asked), false, "Path", w.l, asked)
		}
	}
}

// TestAllowsResources is of P8.2: rules of resources, and what they allow.
func TestAllowsResources(t *testing.T) {
	for _, w := range []struct {
		r       api.Rule
		yes, no []api.Attr
	}{
		// The chapter's own example, and the one of the whole that get of pods/log is not get of pods.
		{of("get", "''", "pods/log */status", ""),
			[]api.Attr{ask("get", "", "pods/log", ""), ask("get", "", "pods/status", ""), ask("get", "", "nodes/status", "a")},
			[]api.Attr{ask("get", "", "pods", ""), ask("get", "", "status", ""), ask("get", "", "nodes/log", ""), ask("list", "", "pods/log", ""), ask("get", "apps", "pods/log", "")}},
		{of("get list", "'' apps", "pods deployments", ""),
			[]api.Attr{ask("get", "", "pods", ""), ask("list", "apps", "deployments", "x"), ask("get", "apps", "pods", "")},
			[]api.Attr{ask("watch", "", "pods", ""), ask("get", "batch", "pods", ""), ask("get", "", "jobs", ""), ask("ge", "", "pods", ""), ask("gets", "", "pods", ""), ask("GET", "", "pods", ""), ask("*", "", "pods", ""), ask("", "", "pods", ""), ask("get", "*", "pods", ""), ask("get", "", "*", ""), ask("get", "", "pods/log", "")}},
		{of("*", "''", "pods", ""),
			[]api.Attr{ask("get", "", "pods", ""), ask("whatever", "", "pods", "a"), ask("", "", "pods", ""), ask("*", "", "pods", "")},
			[]api.Attr{ask("get", "apps", "pods", ""), ask("get", "", "nodes", "")}},
		{of("get *", "apps * ''", "pods *", ""),
			[]api.Attr{ask("get", "", "pods", ""), ask("x", "y", "z", ""), ask("x", "y", "z/w", "v")}, nil},
		{of("g* *t", "a* *s", "p* *s", ""),
			[]api.Attr{ask("g*", "a*", "p*", "")},
			[]api.Attr{ask("get", "apps", "pods", ""), ask("g*", "apps", "p*", ""), ask("get", "a*", "p*", ""), ask("g*", "a*", "pods", "")}},
		{of("get", "*", "pods", ""),
			[]api.Attr{ask("get", "", "pods", ""), ask("get", "apps", "pods", ""), ask("get", "*", "pods", "")},
			[]api.Attr{ask("get", "apps", "nodes", "")}},
		{of("get", "apps", "pods", ""),
			[]api.Attr{ask("get", "apps", "pods", ""), {Verb: "get", Group: "apps", Resource: "pods", Namespace: "n"}},
			[]api.Attr{ask("get", "", "pods", ""), ask("get", "app", "pods", ""), ask("get", "apps.x", "pods", ""), ask("get", "Apps", "pods", "")}},
		{of("get", "", "pods", ""), nil, []api.Attr{ask("get", "", "pods", ""), ask("get", "apps", "pods", "")}},
		{of("", "''", "pods", ""), nil, []api.Attr{ask("get", "", "pods", ""), ask("", "", "pods", ""), ask("*", "", "pods", "")}},
		{of("get", "''", "", ""), nil, []api.Attr{ask("get", "", "pods", ""), ask("get", "", "", "")}},
		{of("''", "''", "''", ""), []api.Attr{ask("", "", "", ""), ask("", "", "", "a")}, []api.Attr{ask("get", "", "", ""), ask("", "a", "", ""), ask("", "", "a", "")}},
		{api.Rule{}, nil, []api.Attr{{}, ask("get", "", "pods", ""), askPath("get", "/a")}},
	} {
		for _, a := range w.yes {
			says(t, rule.Allows(w.r, a), true, "Allows", w.r, a)
		}
		for _, a := range w.no {
			says(t, rule.Allows(w.r, a), false, "Allows", w.r, a)
		}
	}
}

// TestAllowsParts is of P8.2: a resource and its part, of rules of the resource alone, of the part alone, and of a star.
func TestAllowsParts(t *testing.T) {
	for _, w := range []struct {
		resources  string
		pods, logs bool
	}{
		{"pods", true, false}, {"pods/log", false, true}, {"pods pods/log", true, true}, {"*/log", false, true}, {"*", true, true},
		{"log", false, false}, {"pods/status", false, false}, {"*/status", false, false}, {"nodes/log", false, false}, {"nodes nodes/log */exec", false, false},
	} {
		for _, names := range []string{"", "a", "b a"} {
			r := of("get", "''", w.resources, names)
			says(t, rule.Allows(r, ask("get", "", "pods", "a")), w.pods, "Allows", r, "pods")
			says(t, rule.Allows(r, ask("get", "", "pods/log", "a")), w.logs, "Allows", r, "pods/log")
			says(t, rule.Allows(r, ask("get", "", "pods/log", "")), w.logs && names == "", "Allows", r, "pods/log")
		}
	}
}

// TestAllowsNames is of P8.2: names that are first, last, others, or none, of rules with names, and without.
func TestAllowsNames(t *testing.T) {
	for _, w := range []struct{ names, yes, no string }{
		{"", "'' a b * -", ""},
		{"a", "a", "'' b aa A *"},
		{"a b c", "a b c", "'' d ab *"},
		{"*", "*", "'' a b"},
		{"a*", "a*", "'' a ab"},
		{"''", "", "'' a *"},
		{"a '' b", "a b", "'' c"},
		{"\xff a/b", "\xff a/b", "'' \xfe a b"},
	} {
		for _, resources := range []string{"pods", "*", "nodes pods"} {
			r := of("get", "''", resources, w.names)
			for _, name := range list(w.yes) {
				says(t, rule.Allows(r, ask("get", "", "pods", name)), true, "Allows", r, name)
			}
			for _, name := range list(w.no) {
				says(t, rule.Allows(r, ask("get", "", "pods", name)), false, "Allows", r, name)
			}
		}
	}
	empty := api.Rule{Verbs: list("get"), Groups: list("''"), Resources: list("pods"), Names: []string{}}
	says(t, rule.Allows(empty, ask("get", "", "pods", "a")), true, "Allows", empty, "a")
	says(t, rule.Allows(empty, ask("get", "", "pods", "")), true, "Allows", empty)
}

// TestAllowsPaths is of P8.2: rules of paths, paths asked of rules of resources, and the other way about.
func TestAllowsPaths(t *testing.T) {
	r := at("get head", "/a /b/*")
	for _, a := range []api.Attr{askPath("get", "/a"), askPath("head", "/a"), askPath("get", "/b/"), askPath("head", "/b/c"), askPath("get", "/b/*")} {
		says(t, rule.Allows(r, a), true, "Allows", r, a)
	}
	for _, a := range []api.Attr{askPath("post", "/a"), askPath("get", "/b"), askPath("get", "/ab"), askPath("get", "/"), askPath("*", "/a"), askPath("", "/a"), askPath("get", ""), askPath("get", "a"), ask("get", "", "a", ""), ask("get", "", "/a", "")} {
		says(t, rule.Allows(r, a), false, "Allows", r, a)
	}
	all := at("*", "*")
	for _, p := range []string{"/", "/a", "/b/c", "*", "a", "\xff"} {
		says(t, rule.Allows(all, askPath("get", p)), true, "Allows", all, p)
		says(t, rule.Allows(of("*", "* ''", "* ''", ""), askPath("get", p)), false, "Allows of resources", p)
		says(t, rule.Allows(of("*", "*", "*", p), askPath("get", p)), false, "Allows of resources", p)
	}
	for _, a := range []api.Attr{{}, {Verb: "get"}, ask("get", "", "pods", ""), ask("get", "apps", "pods/log", "a"), ask("*", "*", "*", "*")} {
		says(t, rule.Allows(all, a), false, "Allows", all, a)
	}
	// With a path nothing else counts, and without one no path does, whatever else is there.
	both := api.Rule{Verbs: list("get"), Groups: list("''"), Resources: list("pods"), Names: list("a"), Paths: list("/a")}
	says(t, rule.Allows(both, askPath("get", "/a")), true, "Allows", both, "/a")
	says(t, rule.Allows(both, askPath("get", "/b")), false, "Allows", both, "/b")
	says(t, rule.Allows(both, ask("get", "", "pods", "a")), true, "Allows", both, "pods")
	says(t, rule.Allows(both, ask("get", "", "pods", "b")), false, "Allows", both, "pods")
	says(t, rule.Allows(both, ask("get", "", "nodes", "a")), false, "Allows", both, "nodes")
	says(t, rule.Allows(both, api.Attr{Verb: "get", Resource: "nodes", Part: "x", Name: "b", Group: "apps", Path: "/a"}), true, "Allows", both, "/a and others")
	says(t, rule.Allows(both, api.Attr{Verb: "get", Resource: "pods", Name: "a", Path: "/b"}), false, "Allows", both, "/b and others")
	says(t, rule.Allows(both, api.Attr{Verb: "list", Resource: "pods", Name: "a", Path: "/a"}), false, "Allows", both, "list of /a and others")
}

// TestAny is of P8.2: of several rules none, the first, the last, or two allow it; or there are none.
func TestAny(t *testing.T) {
	a := ask("get", "", "pods", "a")
	says(t, rule.Any(nil, a), false, "Any", nil, a)
	says(t, rule.Any([]api.Rule{}, a), false, "Any", nil, a)
	says(t, rule.Any(nil, api.Attr{}), false, "Any", nil)
	says(t, rule.Any([]api.Rule{{}}, api.Attr{}), false, "Any", "nothing")
	yes := []api.Rule{of("get", "''", "pods", ""), of("*", "*", "*", "b a")}
	no := []api.Rule{{}, of("list", "''", "pods", ""), of("get", "''", "pods/log", ""), of("get", "''", "pods", "b"), at("*", "*"), of("get", "apps", "pods", "a")}
	says(t, rule.Any(no, a), false, "Any", no, a)
	for n := range len(no) + 1 {
		says(t, rule.Any(no[:n], a), false, "Any", no[:n], a)
		for i := range n + 1 {
			for _, r := range yes {
				one := put(no[:n], i, r)
				says(t, rule.Any(one, a), true, "Any", one, a)
				for j := range len(one) + 1 {
					two := put(one, j, yes[0])
					says(t, rule.Any(two, a), true, "Any", two, a)
				}
			}
		}
	}
	// One rule must have all: no two of them do together.
	parts := []api.Rule{of("get", "''", "nodes", ""), of("list", "''", "pods", ""), of("get", "apps", "pods", ""), at("get", "/a")}
	says(t, rule.Any(parts, ask("get", "", "pods", "")), false, "Any", parts)
	says(t, rule.Any(parts, askPath("list", "/a")), false, "Any", parts)
	says(t, rule.Any(parts, askPath("get", "/a")), true, "Any", parts)
}
