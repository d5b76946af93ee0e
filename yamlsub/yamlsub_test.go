package yamlsub_test

import (
	"fmt"
	"math"
	"strconv"
	"strings"
	"testing"

	"vestibule/api"
	"vestibule/jsonval"
	"vestibule/tree"
	"vestibule/yamlsub"
)

// Values, written short.

func null() api.Value                         { return api.Value{} }
func boolean(n int64) api.Value               { return api.Value{Kind: api.KindBool, Int: n} }
func number(n int64) api.Value                { return api.Value{Kind: api.KindInt, Int: n} }
func text(s string) api.Value                 { return api.Value{Kind: api.KindText, Text: s} }
func list(l ...api.Value) api.Value           { return api.Value{Kind: api.KindList, List: l} }
func fields(l ...api.Field) api.Value         { return api.Value{Kind: api.KindMap, Fields: l} }
func field(key string, v api.Value) api.Field { return api.Field{Key: key, Value: v} }
func single(key string, v api.Value) api.Value {
	return fields(field(key, v))
}

// keyed is a map with numbers under these keys: 1, 2, and so on.
func keyed(keys ...string) api.Value {
	v := fields()
	for i, key := range keys {
		v.Fields = append(v.Fields, field(key, number(int64(i+1))))
	}
	return v
}

// told is values as a text, their fields as they stand; a list that is nil is as one that is empty.
func told(l ...api.Value) string {
	var b strings.Builder
	for _, v := range l {
		b.WriteString("(" + strconv.Itoa(v.Kind) + " " + strconv.FormatInt(v.Int, 10) + " " + strconv.Quote(v.Text) + told(v.List...))
		for _, f := range v.Fields {
			b.WriteString(" " + strconv.Quote(f.Key) + ":" + told(f.Value))
		}
		b.WriteString(")")
	}
	return b.String()
}

// short cuts what a failed test tells.
func short(s string) string {
	if len(s) > 300 {
		return s[:300] + ".."
	}
	return s
}

// lines are lines, one behind the other.
func lines(l ...string) string { return strings.Join(l, "\n") }

// ahead is a text with so many more spaces ahead of each of its lines.
func ahead(n int, s string) string {
	return strings.Repeat(" ", n) + strings.ReplaceAll(s, "\n", "\n"+strings.Repeat(" ", n))
}

// item is a text as that of a list's item: it begins in the line of the dash, with so many spaces behind that.
func item(n int, s string) string { return "-" + ahead(n+1, s)[1:] }

func parses(t *testing.T, s string, want ...api.Value) {
	t.Helper()
	if l, e := yamlsub.Parse(s); e != api.OK || told(l...) != told(want...) {
		t.Errorf("Parse(%s): %s, %d, want %s, 0", short(strconv.Quote(s)), short(told(l...)), int(e), short(told(want...)))
	}
}

// fails holds Parse against an error: beside it nothing else is told.
func fails(t *testing.T, s string, want api.Errno) {
	t.Helper()
	if l, e := yamlsub.Parse(s); e != want || len(l) > 0 {
		t.Errorf("Parse(%s): %s, %d, want nothing, %d", short(strconv.Quote(s)), short(told(l...)), int(e), int(want))
	}
}

// wrong are texts that are none of what may be parsed.
func wrong(t *testing.T, l ...string) {
	t.Helper()
	for _, s := range l {
		fails(t, s, api.ErrForm)
	}
}

func scalar(t *testing.T, s string, want api.Value, is bool) {
	t.Helper()
	if v, ok := yamlsub.Scalar(s); ok != is || told(v) != told(want) {
		t.Errorf("Scalar(%s): %s, %v, want %s, %v", short(strconv.Quote(s)), short(told(v)), ok, short(told(want)), is)
	}
}

// says holds a scalar against its value: asked alone, as a document, as a list's item, and as a map's value.
func says(t *testing.T, s string, v api.Value) {
	t.Helper()
	scalar(t, s, v, true)
	parses(t, "k: "+s, single("k", v))
	parses(t, "k:   "+s+"  \nl: 1", fields(field("k", v), field("l", number(1))))
	parses(t, "k:\n "+s, single("k", v))
	parses(t, "- "+s, list(v))
	parses(t, "-   "+s+" \n- 1", list(v, number(1)))
	parses(t, "-\n  "+s+"\n", list(v))
	parses(t, " "+s, v)
	parses(t, s+" ", v)
	parses(t, "\n  "+s+" \n---\n"+s+" ", v, v)
	if s != "---" {
		parses(t, s, v)
		parses(t, s+"\n", v)
	}
}

// saysNothing holds a text that is no scalar against the errors: a map's value is one, so that it says nothing there.
func saysNothing(t *testing.T, l ...string) {
	t.Helper()
	for _, s := range l {
		scalar(t, s, null(), false)
		wrong(t, "k: "+s, "k:  "+s+" ", "k: 1\nl: "+s, "- k: "+s)
	}
}

// TestExamples is of P6.1: the document's own.
func TestExamples(t *testing.T) {
	parses(t, lines("a:", "  - 1", "  - x: y"), single("a", list(number(1), single("x", text("y")))))
	// A map in a list's item begins where its key stands.
	parses(t, lines("- a: 1", "  b: 2"), list(keyed("a", "b")))
	wrong(t, lines("- a: 1", "b: 2"))
}

// ordinary are documents, and what they say.
var ordinary = []struct {
	s string
	v api.Value
}{
	// scalars
	{"x", text("x")},
	{"a b  c", text("a b  c")},
	{"7", number(7)},
	{"-7", number(-7)},
	{"null", null()},
	{"~", null()},
	{"true", boolean(1)},
	{"false", boolean(0)},
	{`"a: b"`, text("a: b")},
	{`"- a\n# b"`, text("- a\n# b")},
	{"'it''s'", text("it's")},
	{"''", text("")},
	{"[]", list()},
	{"{}", fields()},
	{`[1, {"b": [true, null], "a": "x"}]`, list(number(1), fields(field("b", list(boolean(1), null())), field("a", text("x"))))},
	{`{"a": 1}`, keyed("a")},
	{`{"b":1,"a":2}`, keyed("b", "a")},
	// lists
	{"- 1", list(number(1))},
	{"- 1\n- a b\n- null\n- true\n- 'x'\n- []", list(number(1), text("a b"), null(), boolean(1), text("x"), list())},
	{"-", list(null())},
	{"-\n-\n-", list(null(), null(), null())},
	{"-\n- 1\n-", list(null(), number(1), null())},
	{"-\n 1", list(number(1))},
	{"-\n      x\n-\n  y\n- z", list(text("x"), text("y"), text("z"))},
	{"- - 1", list(list(number(1)))},
	{"- - 1\n  - 2\n- - 3\n- 4", list(list(number(1), number(2)), list(number(3)), number(4))},
	{"- - - 1\n    - 2\n  - 3\n- 4", list(list(list(number(1), number(2)), number(3)), number(4))},
	{"-   - 1\n    - 2\n-  3", list(list(number(1), number(2)), number(3))},
	{"-\n  - 1\n  - 2\n-\n   - 3", list(list(number(1), number(2)), list(number(3)))},
	{"- -", list(list(null()))},
	{"- -\n  -\n-", list(list(null(), null()), null())},
	{"- -\n   - 1", list(list(list(number(1))))},
	// maps
	{"a:", single("a", null())},
	{"a: 1", keyed("a")},
	{"a: 1\nb: 2", keyed("a", "b")},
	{"b: 1\na: 2\nc: 3", keyed("b", "a", "c")},
	{"a:    1\nb: 2", keyed("a", "b")},
	{"a:\nb:\nc: 3", fields(field("a", null()), field("b", null()), field("c", number(3)))},
	{"a:\n x", single("a", text("x"))},
	{"a:\n  b: 1\n  c: 2\nd: 3", fields(field("a", keyed("b", "c")), field("d", number(3)))},
	{"a:\n  b:\n    c:\n      d:\n  e: x", single("a", fields(field("b", single("c", single("d", null()))), field("e", text("x"))))},
	{"a:\n        b: 1\nc:\n d: 1", fields(field("a", keyed("b")), field("c", keyed("d")))},
	{"a: {\"b\": 1}\nc: [2]\nd: \"\"\ne: ''", fields(field("a", keyed("b")), field("c", list(number(2))), field("d", text("")), field("e", text("")))},
	{`"x y": 1`, keyed("x y")},
	{"\"a\": \"b\"\n\"\":", fields(field("a", text("b")), field("", null()))},
	// lists in maps, and maps in lists
	{"a:\n  - 1\n  - 2\nb: 3", fields(field("a", list(number(1), number(2))), field("b", number(3)))},
	{"a:\n -\n -\nb:", fields(field("a", list(null(), null())), field("b", null()))},
	{"- a: 1", list(keyed("a"))},
	{"- a: 1\n  b: 2\n- a: 1", list(keyed("a", "b"), keyed("a"))},
	{"-   a: 1\n    b: 2\n-  a: 1\n   b: 2", list(keyed("a", "b"), keyed("a", "b"))},
	{"-\n  a: 1\n  b: 2\n-\n a: 1", list(keyed("a", "b"), keyed("a"))},
	{"- a:\n  b:\n-", list(fields(field("a", null()), field("b", null())), null())},
	{"- a:\n    b: 1\n    c: 2\n  d: 3", list(fields(field("a", keyed("b", "c")), field("d", number(3))))},
	{"- a:\n    - 1\n    - 2\n  b: 3\n- 4", list(fields(field("a", list(number(1), number(2))), field("b", number(3))), number(4))},
	{"- - a: 1\n    b: 2\n  - c\n- d", list(list(keyed("a", "b"), text("c")), text("d"))},
	{"a:\n   - b:\n      c: 1\n   - d\ne: f", fields(field("a", list(single("b", keyed("c")), text("d"))), field("e", text("f")))},
	// literal texts
	{"a: |", single("a", text(""))},
	{"a: |\n  x", single("a", text("x\n"))},
	{"a: |\n  x\n    y\n\n  # z\nb: 1", fields(field("a", text("x\n  y\n\n# z\n")), field("b", number(1)))},
	{"- a: |\n    x\n  b: |\n   y\n- c", list(fields(field("a", text("x\n")), field("b", text("y\n"))), text("c"))},
	{"a:\n  b: |\n    - x\n    k: y\nc: |\nd: |\n x", fields(field("a", single("b", text("- x\nk: y\n"))), field("c", text("")), field("d", text("x\n")))},
	// a role
	{
		"kind: Role\nmetadata:\n  name: reader\n  namespace: a-b\n  labels:\n    app.kubernetes.io/name: x\nrules:\n  - verbs: [\"get\", \"list\"]\n    apiGroups: [\"\"]\n    resources:\n      - pods\n      - pods/log\n  - verbs:\n      - '*'\n    nonResourceURLs:\n      - /healthz/*",
		fields(
			field("kind", text("Role")),
			field("metadata", fields(field("name", text("reader")), field("namespace", text("a-b")), field("labels", single("app.kubernetes.io/name", text("x"))))),
			field("rules", list(
				fields(field("verbs", list(text("get"), text("list"))), field("apiGroups", list(text(""))), field("resources", list(text("pods"), text("pods/log")))),
				fields(field("verbs", list(text("*"))), field("nonResourceURLs", list(text("/healthz/*")))),
			)),
		),
	},
}

// passed are lines that are passed over.
var passed = []string{"", " ", "     ", "#", "# a", "#a: b", "  # - a", "          # [", "# ---", " #---", "#\u00e9 \U0001f600 \"'"}

// TestOrdinary is of P6.1: documents, alone and in others.
func TestOrdinary(t *testing.T) {
	for _, w := range ordinary {
		parses(t, w.s, w.v)
		parses(t, w.s+"\n", w.v)
		parses(t, w.s+"\n\n \n", w.v)
		parses(t, w.s+"\n---\n"+w.s+"\n", w.v, w.v)
		for n := range 4 {
			parses(t, ahead(n, w.s), w.v)
			parses(t, item(n+1, w.s), list(w.v))
			parses(t, item(n+1, w.s)+"\n"+item(n+2, w.s), list(w.v, w.v))
			parses(t, item(1, item(n+1, w.s)+"\n- 1"), list(list(w.v, number(1))))
			parses(t, "-\n"+ahead(n+1, w.s)+"\n- 1", list(w.v, number(1)))
			parses(t, "k:\n"+ahead(n+1, w.s)+"\nl: 1", fields(field("k", w.v), field("l", number(1))))
			parses(t, item(n+1, "k:\n"+ahead(n+1, w.s)+"\nl: 1")+"\n- 2", list(fields(field("k", w.v), field("l", number(1))), number(2)))
		}
		for _, p := range passed {
			parses(t, p+"\n"+w.s, w.v)
			parses(t, p+"\n"+p+"\n"+ahead(2, w.s), w.v)
			parses(t, "---\n"+p+"\n---\n"+w.s+"\n---\n"+p, w.v)
			if strings.Contains(w.s, "|") {
				continue
			}
			parses(t, w.s+"\n"+p, w.v)
			between := strings.ReplaceAll(w.s, "\n", "\n"+p+"\n")
			parses(t, between, w.v)
			parses(t, "k:\n"+p+"\n"+ahead(1, between)+"\n"+p+"\nl: 1", fields(field("k", w.v), field("l", number(1))))
			parses(t, "-\n"+p+"\n"+ahead(1, between)+"\n"+p+"\n- 1", list(w.v, number(1)))
		}
	}
}

// TestBehind is of P6.1: behind a document's value there is nothing else.
func TestBehind(t *testing.T) {
	for _, w := range ordinary {
		wrong(t, w.s+"\nx", w.s+"\n\n# c\n1", w.s+"\n[]", w.s+"\n|", w.s+"\n:", "x\n"+w.s, "'x'\n"+w.s, "{}\n"+w.s, ahead(1, w.s)+"\nx: 1", ahead(2, w.s)+"\n- 1", w.s+"\n---\nx\n"+w.s)
		if !strings.HasSuffix(w.s, "-") && !strings.HasSuffix(w.s, ":") && !strings.HasSuffix(w.s, "|") && !strings.HasSuffix(w.s, "|\n x") {
			wrong(t, w.s+"\n x")
		}
	}
	wrong(t, "x\ny", "x\n y", "x\n- y", "x\ny: z", "1\n2", "'a\nb'", "\"a\nb\"", "[\n]", "[1,\n2]", "{\n}", "{\"a\":\n1}", "a: [1,\n  2]", "a: 'b\n  c'", "a: \"b\n  c\"", "a: b\n  c", "- a\n  b", "- [\n  1]")
}

// TestNone is of P6.1: documents that are none.
func TestNone(t *testing.T) {
	for _, p := range passed {
		for _, q := range passed {
			for _, s := range []string{p, p + "\n" + q, p + "\n---\n" + q, p + "\n\n\n" + q + "\n", "---\n" + p + "\n---\n" + q + "\n---\n"} {
				parses(t, s)
			}
			parses(t, p+"\n---\n"+q+"\n---\nx\n---\n"+p+"\n"+q, text("x"))
		}
	}
	for _, s := range []string{"\n", "\n\n\n", "---", "---\n", "\n---", "---\n---", "---\n---\n---\n", "---\n\n---", strings.Repeat(" ", 1000), strings.Repeat("\n", 1000), strings.Repeat("---\n", 1000)} {
		parses(t, s)
	}
	if l, e := yamlsub.Parse(""); len(l) != 0 || e != api.OK {
		t.Errorf("Parse of nothing: %d, %d", len(l), int(e))
	}
}

// TestDocuments is of P6.1: what stands between lines that are ---.
func TestDocuments(t *testing.T) {
	a, b, c := text("a"), single("b", number(1)), list(text("c"))
	for _, w := range []struct {
		s    string
		want []api.Value
	}{
		{"a\n---\nb: 1", []api.Value{a, b}},
		{"---\na\n---\nb: 1\n---\n- c\n---", []api.Value{a, b, c}},
		{"---\n---\na\n---\n---\nb: 1\n---\n---\n", []api.Value{a, b}},
		{"- c\n---\na\n---\nb: 1\n---\n- c", []api.Value{c, a, b, c}},
		{"a\n---\n\n---\nb: 1", []api.Value{a, b}},
		{"a\n---\n  # x\n\n---\nb: 1", []api.Value{a, b}},
		{"a\n\n---\n\nb: 1\n\n", []api.Value{a, b}},
		{"a\n# x\n---\n# y\nb: 1", []api.Value{a, b}},
		{"   a\n---\n  b: 1\n---\n- c", []api.Value{a, b, c}},
		{"~\n---\nnull", []api.Value{null(), null()}},
		{"''\n---\n[]\n---\n{}", []api.Value{text(""), list(), fields()}},
		{"a: 1\n---\na: 1", []api.Value{keyed("a"), keyed("a")}},
		{"a:\n---\na:\n  x", []api.Value{single("a", null()), single("a", text("x"))}},
		{"-\n---\n-\n  x", []api.Value{list(null()), list(text("x"))}},
		{"a: |\n---\na: |\n  x\n---\na", []api.Value{single("a", text("")), single("a", text("x\n")), a}},
		{"a: |\n  ---\n ", []api.Value{single("a", text("---\n"))}},
		// not just ---: with spaces it is a plain scalar.
		{" ---", []api.Value{text("---")}},
		{"--- ", []api.Value{text("---")}},
		{"  ---  ", []api.Value{text("---")}},
		{"----", []api.Value{text("----")}},
		{"--", []api.Value{text("--")}},
		{"---a", []api.Value{text("---a")}},
		{"--- a", []api.Value{text("--- a")}},
		{"---: 1", []api.Value{keyed("---")}},
		{"- ---", []api.Value{list(text("---"))}},
		{"a: ---", []api.Value{single("a", text("---"))}},
		{"a:\n ---", []api.Value{single("a", text("---"))}},
		{"#---\na", []api.Value{a}},
		{"...", []api.Value{text("...")}},
		{"a\n---\n ---\n---\n--- ", []api.Value{a, text("---"), text("---")}},
	} {
		parses(t, w.s, w.want...)
		parses(t, w.s+"\n", w.want...)
		parses(t, "---\n"+w.s, w.want...)
		parses(t, w.s+"\n---", w.want...)
		parses(t, w.s+"\n---\n"+w.s, append(w.want[:len(w.want):len(w.want)], w.want...)...)
	}
	var many []api.Value
	for i := range 5000 {
		many = append(many, number(int64(i%10)))
	}
	parses(t, strings.Repeat("0\n---\n1\n---\n2\n---\n3\n---\n4\n---\n5\n---\n6\n---\n7\n---\n8\n---\n9\n---\n", 500), many...)
	wrong(t, "a\n ---\nb", "a\n--- \nb", "a\n----\nb", "a\n--- b", "a: 1\n ---\nb: 1", "a: 1\n--- \nb: 1", "- a\n ---\n- b", "- a\n--- \n- b", "a\n...\nb", "%YAML 1.2\n---\na", "a: [\n---\n]", "a\n---\nb\n---\n:", ":\n---\nb", "a\n---\nb\nc\n---\nd", "---\r\na")
}

// TestSize is of P6.1: the longest text, and the first one that is too long, whatever it says.
func TestSize(t *testing.T) {
	const most = 65536
	for n := most - 3; n <= most+3; n++ {
		long := strings.Repeat("x", n)
		for s, v := range map[string][]api.Value{
			long:                                  {text(long)},
			"- " + long[2:]:                       {list(text(long[2:]))},
			"k: " + long[3:]:                      {single("k", text(long[3:]))},
			long[1:] + ":":                        {single(long[1:], null())},
			"'" + long[2:] + "'":                  {text(long[2:])},
			`"` + long[2:] + `"`:                  {text(long[2:])},
			`"` + long[3:] + `":`:                 {single(long[3:], null())},
			"k: |\n " + long[6:]:                  {single("k", text(long[6:]+"\n"))},
			strings.Repeat(" ", n-1) + "1":        {number(1)},
			"1" + strings.Repeat(" ", n-1):        {number(1)},
			strings.Repeat("\n", n-1) + "1":       {number(1)},
			"-" + strings.Repeat(" ", n-2) + "1":  {list(number(1))},
			"k:" + strings.Repeat(" ", n-3) + "1": {single("k", number(1))},
			"#" + long[2:] + "\n":                 {},
			strings.Repeat(" ", n):                {},
			strings.Repeat("\n", n):               {},
			"#" + long[1:]:                        {},
			strings.Repeat("---\n", n)[:n/4*4]:    {},
		} {
			switch {
			case len(s) != n && len(s) != n/4*4:
				t.Fatalf("a text of %d bytes, not of %d", len(s), n)
			case len(s) <= most:
				parses(t, s, v...)
			default:
				fails(t, s, api.ErrSize)
			}
		}
		want := api.ErrForm
		if n > most {
			want = api.ErrSize
		}
		for _, s := range []string{strings.Repeat(":", n), strings.Repeat("[", n), strings.Repeat("\xff", n), strings.Repeat("\t", n), strings.Repeat("\x00", n), strings.Repeat("x\n", n)[:n], strings.Repeat("- ", n)[:n], strings.Repeat("'", n|1)[:n&^1] + "x"} {
			if len(s) == n {
				fails(t, s, want)
			}
		}
	}
}

// places are texts with a place, @, where a byte may stand; what they say, if an x stands there.
var places = []struct {
	s string
	v []api.Value
}{
	{"a@b", []api.Value{text("axb")}},
	{"a@", []api.Value{text("ax")}},
	{"'@'", []api.Value{text("x")}},
	{`"a@b"`, []api.Value{text("axb")}},
	{`["a@"]`, []api.Value{list(text("ax"))}},
	{"- a@b", []api.Value{list(text("axb"))}},
	{"k: a@b", []api.Value{single("k", text("axb"))}},
	{`"a@b": 1`, []api.Value{keyed("axb")}},
	{"k: |\n  a@b", []api.Value{single("k", text("axb\n"))}},
	{"1\n# a@b", []api.Value{number(1)}},
	{"#@", nil},
	{"# a\n---\n#@b\n---\n", nil},
}

// TestBytes is of P6.1: bytes below 20, but 0a, may be nowhere, nor may what is not valid; all other points may be in texts.
func TestBytes(t *testing.T) {
	bad := []string{"\x80", "\xbf", "\xc3", "\xc0\x80", "\xe2\x82", "\xe0\x80\x80", "\xed\xa0\x80", "\xed\xbf\xbf", "\xed\xa0\xbd\xed\xb8\x80", "\xf0\x9f\x98", "\xf4\x90\x80\x80", "\xf8\x88\x80\x80\x80", "\xfe", "\xff", "\r\n", "\t\n", "\x00\x00"}
	for c := range 0x20 {
		if c != '\n' {
			bad = append(bad, string(rune(c)))
		}
	}
	good := []string{"x", "\x7f", "\u0080", "\u0085", "\u00a0", "\u00e9", "\u0300", "\u2028", "\u2029", "\u200b", "\ufeff", "\ufffd", "\ufffe", "\uffff", "\ud7ff", "\ue000", "\U0001f600", "\U0010ffff", "\uff1a", "\u2013"}
	for _, w := range places {
		for _, b := range good {
			parses(t, strings.ReplaceAll(w.s, "@", b), filled(b, w.v)...)
		}
		for _, b := range bad {
			wrong(t, strings.ReplaceAll(w.s, "@", b))
			wrong(t, strings.ReplaceAll(w.s, "@", "\u00e9"+b+"x"))
			wrong(t, w.s+b, w.s+"\n"+b, w.s+"\n---\n"+b, b+w.s, b+"\n"+w.s, w.s+"\n---\n#"+b, w.s+"\n"+b+"\n---\n1")
		}
	}
	// Between parts, too.
	for _, b := range []string{"\t", "\r", "\v", "\f", "\x00"} {
		wrong(t, b, b+"- 1", "-"+b+"1", "-"+b, "- 1"+b, "- "+b+"1", "a:"+b+"1", "a:"+b, "a: "+b+"1", "a: 1"+b, "a: 1"+b+"\nb: 2", "a: 1\n"+b+"b: 2", "a:\n"+b+"b: 2", "[1,"+b+"2]", b+"[]", "[]"+b, "a: |"+b+"\n  x", "a: |\n"+b+"x", "a: |\n  x\n"+b+"\n  y", "a: |\n  x\n"+b, "---"+b+"\na", "1\n---"+b, b+"---")
	}
	wrong(t, "a\r\n", "- a\r\n- b\r\n", "\r", "[1,\t2]", "\t")
	// Points beyond ASCII part nothing.
	for _, b := range []string{"\u00a0", "\u0085", "\u2028", "\u3000", "\ufeff"} {
		parses(t, "-"+b+"a", text("-"+b+"a"))
		parses(t, "a:"+b+"1", text("a:"+b+"1"))
		parses(t, b+"#", text(b+"#"))
		parses(t, "a"+b+"#", text("a"+b+"#"))
		parses(t, "- 1"+b, list(text("1"+b)))
		parses(t, b+"---", text(b+"---"))
		parses(t, "---"+b, text("---"+b))
		wrong(t, "a"+b+": 1", b+"a: 1", "[1]"+b, b+"[1]: 2", "a: 1\n"+b, "a: 1\n"+b+"b: 2")
	}
}

// filled is values with s for each x in their texts and keys.
func filled(s string, l []api.Value) []api.Value {
	var out []api.Value
	for _, v := range l {
		v.Text = strings.ReplaceAll(v.Text, "x", s)
		v.List = filled(s, v.List)
		var fs []api.Field
		for _, f := range v.Fields {
			fs = append(fs, field(strings.ReplaceAll(f.Key, "x", s), filled(s, []api.Value{f.Value})[0]))
		}
		v.Fields = fs
		out = append(out, v)
	}
	return out
}

// TestLists is of P6.1: items.
func TestLists(t *testing.T) {
	x, y := text("x"), text("y")
	for s, v := range map[string]api.Value{
		// just -, at the end, ahead of a greater, the same, and a less indent
		"- x\n-":             list(x, null()),
		"-\n x":              list(x),
		"-\n          x":     list(x),
		"-\n- x":             list(null(), x),
		"- -\n- x":           list(list(null()), x),
		"- x\n- -\n  -\n- y": list(x, list(null(), null()), y),
		"k:\n  -\nl: 1":      fields(field("k", list(null())), field("l", number(1))),
		"- k:\n    -\n- x":   list(single("k", list(null())), x),
		"-   \n  x":          list(x),
		"-     ":             list(null()),
		"-\n\n# c\n":         list(null()),
		"-\n\n# c\n x":       list(x),
		"-\n\n# c\n- x":      list(null(), x),
		"-\n -\n  -\n   x":   list(list(list(x))),
		"-\n -\n  -\n   -\n": list(list(list(list(null())))),
		"-\n  -\n  -\n-\n x": list(list(null(), null()), x),
		"-\n -\n-\n -\n -":   list(list(null()), list(null(), null())),
		"- \n-  \n-   x":     list(null(), null(), x),
		// an item that begins in its line, and goes on below at its place
		"- - x\n  - y":              list(list(x, y)),
		"-  - x\n   - y":            list(list(x, y)),
		"-     - x\n      - y":      list(list(x, y)),
		"- - - x\n    - y":          list(list(list(x, y))),
		"- -   - x\n      - y":      list(list(list(x, y))),
		"-   -   - x\n        - y":  list(list(list(x, y))),
		"- - - x\n  - y":            list(list(list(x), y)),
		"- - - x\n- y":              list(list(list(x)), y),
		"- a: 1\n  b: 2\n  c: 3":    list(keyed("a", "b", "c")),
		"-   a: 1\n    b: 2":        list(keyed("a", "b")),
		"- - a: 1\n    b: 2\n  - x": list(list(keyed("a", "b"), x)),
		"- a:\n  b: x":              list(fields(field("a", null()), field("b", x))),
		"- a:\n   x\n  b: y":        list(fields(field("a", x), field("b", y))),
		"- a:\n   - x\n   - y":      list(single("a", list(x, y))),
		"- -\n   x\n  - y":          list(list(x, y)),
		"- - a:\n     b:\n      x":  list(list(single("a", single("b", x)))),
		"  - x\n  - y":              list(x, y),
		"  - - x\n    - y\n  - x":   list(list(x, y), x),
		// several spaces behind the -
		"-  x":                         list(x),
		"-          x\n-   y":          list(x, y),
		"-  'x'\n-   \"y\"\n-    [1 ]": list(x, y, list(number(1))),
		// texts that begin with - and are no items
		"-x":           text("-x"),
		"--":           text("--"),
		"-- x":         text("-- x"),
		"-'x'":         text("-'x'"),
		"-[1]":         text("-[1]"),
		"-#":           text("-#"),
		"-:x":          text("-:x"),
		"- -x\n- --":   list(text("-x"), text("--")),
		"- x - y":      list(text("x - y")),
		"- x-\n- -1":   list(text("x-"), number(-1)),
		"- a:b\n- a#b": list(text("a:b"), text("a#b")),
	} {
		parses(t, s, v)
		parses(t, s+"\n", v)
		parses(t, ahead(3, s), v)
		parses(t, "k:\n"+ahead(1, s), single("k", v))
	}
	wrong(t,
		"- x\n-y", "- x\ny", "- x\n--", "- x\na: 1", "- x\n[1]", "-\nx", "- - x\n  y", "- - x\n  -y", "- a: 1\n  - x", "- -x\n-x",
		"- x\n - y", "- x\n  - y", "-\n - x\n  - y", "-\n  - x\n - y", "- - x\n - y", "- - x\n   - y", "-  - x\n  - y", " - x\n- y", "  - x\n - y", "- x\n\n# c\n - y",
		"- a: 1\n b: 2", "- a: 1\n   b: 2", "-  a: 1\n  b: 2", "- a: 1\nb: 2", "-   a: 1\n  b: 2", "-\n  a: 1\n b: 2", "-\n  a: 1\n   b: 2", "- - a: 1\n  b: 2", "- - a: 1\n   b: 2",
		"- x\n  y", "- 1\n  a: 2", "- 'x'\n  'y'", "- - x\n    y", "- a: x\n    y",
		"- :", "- : x", "- a: b: c", "- #", "- # x", "- x # y", "- |", "- |\n  x", "- >", "- ,", "- ]", "- }", "- a: - x", "- 'x", "- \"x", "- [", "- ? x", "- &a x", "- *a", "- !x", "- @", "- `x`", "- %x",
	)
}

// TestMaps is of P6.1: fields.
func TestMaps(t *testing.T) {
	x, y := text("x"), text("y")
	for s, v := range map[string]api.Value{
		// a colon with nothing, with a space, and with a letter behind it
		"a:":             single("a", null()),
		"a: ":            single("a", null()),
		"a:      ":       single("a", null()),
		"a: x":           single("a", x),
		"a:     x   ":    single("a", x),
		"a:x":            text("a:x"),
		"a:1":            text("a:1"),
		"a:|":            text("a:|"),
		"a:[1]":          text("a:[1]"),
		"a:'x'":          text("a:'x'"),
		"a:#":            text("a:#"),
		"a :x":           text("a :x"),
		"http://x":       text("http://x"),
		"a::x":           text("a::x"),
		"a: b:c":         single("a", text("b:c")),
		"a: http://x/y":  single("a", text("http://x/y")),
		"a: b c:d":       single("a", text("b c:d")),
		"a: 'b: c'":      single("a", text("b: c")),
		"a: 'b:'":        single("a", text("b:")),
		"a: \"b: c\"":    single("a", text("b: c")),
		"a: {\"b\": 1}":  single("a", keyed("b")),
		"a: [\"b: c\"]":  single("a", list(text("b: c"))),
		"a: -x":          single("a", text("-x")),
		"a: --":          single("a", text("--")),
		"a: x - y":       single("a", text("x - y")),
		"a: '|'":         single("a", text("|")),
		"a: \"|\"":       single("a", text("|")),
		"a: x|":          single("a", text("x|")),
		"a: x#":          single("a", text("x#")),
		"a: -#":          single("a", text("-#")),
		"a: ~\nb: ''":    fields(field("a", null()), field("b", text(""))),
		"a: ---\nb: ...": fields(field("a", text("---")), field("b", text("..."))),
		// a block below
		"a:\n x":                     single("a", x),
		"a:\n          x":            single("a", x),
		"a:\n x\nb:\n  y":            fields(field("a", x), field("b", y)),
		"a:\n b: 1\n c: 2":           single("a", keyed("b", "c")),
		"a:\n -":                     single("a", list(null())),
		"a:\n - x\n - y\nb: y":       fields(field("a", list(x, y)), field("b", y)),
		"a:\n - x\nb:\n - y":         fields(field("a", list(x)), field("b", list(y))),
		"a:\n  b:\n   c:\n    d: 1":  single("a", single("b", single("c", keyed("d")))),
		"a:\n  b:\n   c:\n  d:\ne:":  fields(field("a", fields(field("b", single("c", null())), field("d", null()))), field("e", null())),
		"a:\n\n# c\n\n  x\n\nb: y":   fields(field("a", x), field("b", y)),
		"a:\n# c\nb: y":              fields(field("a", null()), field("b", y)),
		"a:\n  # c\nb: y":            fields(field("a", null()), field("b", y)),
		"a:\n  # c":                  single("a", null()),
		"a:\n  b:\nc: x":             fields(field("a", single("b", null())), field("c", x)),
		"  a: x\n  b:\n    c: y":     fields(field("a", x), field("b", single("c", y))),
		"a:\n 'x'":                   single("a", x),
		"a:\n [\"x\"]":               single("a", list(x)),
		"a:\n    b: |\n     x\nc: y": fields(field("a", single("b", text("x\n"))), field("c", y)),
	} {
		parses(t, s, v)
		parses(t, s+"\n", v)
		parses(t, ahead(3, s), v)
		parses(t, item(2, s)+"\n- x", list(v, x))
		parses(t, "k:\n"+ahead(1, s), single("k", v))
	}
	wrong(t,
		// two colons in a line, and others that are in the way
		"a: b: c", "a: b:", "a: b: ", "a: b :", "a: b : c", "a:b: c", "a:b:", "a:: x", "a::", "a: : x", "a: :", "a: :x", "::", ": x", ":", ":x", "a : x", "a :", "http://x: y",
		// lists at the same indent as their map's key
		"a:\n- x", "a:\n- x\n- y\nb: z", "k:\n  a:\n  - x", "- a:\n  - x", "- a:\n- b\n  - x",
		// a line behind a value that has a greater indent
		"a: x\n b: y", "a: x\n  y", "a: 1\n - x", "a: [1]\n  2", "a: 'x'\n 'y'", "a: ''\n b", "a: ~\n x", "a: null\n b: c", "a: {}\n b: c", "a: x\n\n# c\n b: y", "a: x\nb: y\n c: z", "a:\n b: x\n  c: y", "a:\n x\n y", "a:\n x\n  y",
		// an indent that is less, but none of those around
		"a:\n  b: 1\n c: 2", "a:\n    b: 1\n  c: 2", "a:\n   - x\n - y", "a:\n   - x\n b: y", "  a: x\n b: y", " a: x\nb: y", "a:\n  x\n y", "a:\n  b:\n    c: 1\n   d: 2", "a:\n  b:\n    c: 1\n d: 2", "a:\n  b: |\n    x\n c: y",
		// lines of another kind
		"a: x\n- y", "a: x\ny", "a: x\n[1]", "a: x\n{}", "a: x\n'y'", "a: x\n|", "a: x\nb:y", "a: x\nb", "a: x\nb c: y", "a:\nx", "a:\n b: 1\n - x",
		// values that are no scalars
		"a: - x", "a: -", "a: # x", "a: #x", "a: x # y", "a: ,", "a: ]x", "a: }", "a: &x", "a: &x y", "a: *x", "a: !x", "a: > x", "a: >", "a: |x", "a: | x", "a: %x", "a: @x", "a: ?x", "a: ? x", "a: `x`", "a: 'x", "a: 'x' y", "a: \"x", "a: \"x\" y", "a: [", "a: [x]", "a: {b: c}", "a: [1] # x",
	)
}

const keyBytes = "abcdefghijklmnopqrstuvwxyzABCDEFGHIJKLMNOPQRSTUVWXYZ0123456789_./-"

// TestKeys is of P6.1: which keys may be, with each byte at each place, and as strings.
func TestKeys(t *testing.T) {
	for c := range 256 {
		b := string([]byte{byte(c)})
		if strings.Contains(keyBytes, b) {
			for _, key := range []string{b, "k" + b, b + "k", "k" + b + "l", b + b, "-" + b, b + "-"} {
				parses(t, key+": 1", keyed(key))
				parses(t, key+":", single(key, null()))
				parses(t, "- "+key+":   1\n  "+key+"0: 2", list(keyed(key, key+"0")))
				parses(t, key+": |\n  x", single(key, text("x\n")))
				parses(t, key+":1", text(key+":1"))
			}
			continue
		}
		wrong(t, "k"+b+"l: 1", "k"+b+": 1", "k"+b+":", "k: 1\nl"+b+"m: 2")
		if c != ' ' && c != '\n' && c != '#' {
			wrong(t, b+"k: 1", b+": 1", b+":", "k: 1\n"+b+"l: 1")
		}
	}
	parses(t, keyBytes+": 1", keyed(keyBytes))
	parses(t, strings.Repeat(keyBytes, 50)+": 1", keyed(strings.Repeat(keyBytes, 50)))
	parses(t, "null: 1\ntrue: 2\n1: 3\n-1: 4\n-: 5\n--: 6\n---: 7\n.: 8\n/: 9\n_: 10\n1.5: 11", keyed("null", "true", "1", "-1", "-", "--", "---", ".", "/", "_", "1.5"))
	parses(t, "-: 1", keyed("-"))
	parses(t, "- -: 1", list(keyed("-")))
	parses(t, "k: 1\n#l: 1", keyed("k"))
	parses(t, "#: 1")
	wrong(t, ": 1", ":", "k: 1\n: 2", " : 1", "\u00e9: 1", "k\u00e9: 1", "\u00e9k: 1", "~: 1", "[]: 1", "{}: 1", "[1]: 1", "{\"a\": 1}: 1", "k[0]: 1", "(k): 1", "k+l: 1", "k,l: 1", "k=l: 1", "$k: 1", "? k", "? k\n: 1", "k : 1", "k l: 1", "*: 1", "<<: 1", "k'l: 1", "k\"l: 1", "|: 1")
	for s, key := range map[string]string{
		`""`: "", `"a"`: "a", `"a b"`: "a b", `"a: b"`: "a: b", `"a:"`: "a:", `":"`: ":", `"#"`: "#", `"a # b"`: "a # b", `"- a"`: "- a", `"-"`: "-", `"---"`: "---", `" "`: " ", `"  a  "`: "  a  ", `"|"`: "|", `"'"`: "'",
		`"\n"`: "\n", `"\""`: `"`, `"\\"`: `\`, `"\": "`: `": `, `"\u0041"`: "A", `"\u0000"`: "\x00", `"\t"`: "\t", `"\/"`: "/", `"\u00e9"`: "\u00e9", "\"\u00e9\"": "\u00e9", `"\ud83d\ude00"`: "\U0001f600", "\"\u2028\"": "\u2028", `"[1]"`: "[1]", `"{}"`: "{}", `"null"`: "null", "\"\x7f\"": "\x7f",
	} {
		parses(t, s+": 1", keyed(key))
		parses(t, s+":", single(key, null()))
		parses(t, s+":   'x'  ", single(key, text("x")))
		parses(t, s+": "+s, single(key, text(key)))
		parses(t, s+":\n  "+s+": 1", single(key, keyed(key)))
		parses(t, "- "+s+": 1\n  x: 2", list(keyed(key, "x")))
		parses(t, s+": |\n  x", single(key, text("x\n")))
		wrong(t, s+" : 1", s+":1", s+":"+s, s+":[1]", s+"x: 1", "x"+s+": 1", s+s+": 1", s+":: 1", s+" 1", s+"\n: 1", s+": 1\n"+s+": 2", "a: "+s+": 1", s+": a: b")
	}
	wrong(t, `"a: 1`, `a": 1`, `"\x": 1`, `"\": 1`, `"\u004": 1`, `"\ud83d": 1`, `"\ude00": 1`, `'a': 1`, `'': 1`, `'a: 1`, `'a'': 1`, `"a'": `+"`", `"a""b": 1`, `"a" "b": 1`, `["a"]: 1`, `"a", "b": 1`)
}

// TestTwice is of P6.1: each key once in a map.
func TestTwice(t *testing.T) {
	wrong(t,
		"a: 1\na: 2", "a: 1\na: 1", "a:\na:", "a: 1\nb: 2\na: 3", "a: 1\n\"a\": 2", "\"a\": 1\na: 2", "\"a\": 1\n\"\\u0061\": 2", "\"\": 1\n\"\": 2", "a: |\na: |", "a:\n  b: 1\na:\n  c: 2",
		"- a: 1\n  a: 2", "k:\n  a: 1\n  b: 2\n  b: 3", "k: {\"a\": 1, \"a\": 2}", "- - a: 1\n    a: 2", "x\n---\na: 1\na: 2", "a: 1\na: 2\n---\nx",
	)
	parses(t, "a: 1\nA: 2\naa: 3\n\"a \": 4\n\"\": 5", keyed("a", "A", "aa", "a ", ""))
	parses(t, "a:\n  a:\n    a: 1", single("a", single("a", keyed("a"))))
	parses(t, "- a: 1\n- a: 1", list(keyed("a"), keyed("a")))
	parses(t, "x:\n  a: 1\ny:\n  a: 1", fields(field("x", keyed("a")), field("y", keyed("a"))))
	parses(t, "a: 1\n---\na: 1", keyed("a"), keyed("a"))
}

// inLists, inMaps and inBoth are n lists or maps, one in the other, with a scalar in the last one.
func inLists(n int, s string) string { return strings.Repeat("- ", n) + s }

func inMaps(n int, s string) string {
	for range n {
		s = "k:\n" + ahead(1, s)
	}
	return s
}

func inBoth(n int, s string) string {
	for i := range n {
		if i%2 == 0 {
			s = "k:\n" + ahead(2, s)
		} else {
			s = item(1, s)
		}
	}
	return s
}

// TestDepth is of P6.1: the last depth that may be, and the first one that may not.
func TestDepth(t *testing.T) {
	for n := range 40 {
		for s, depth := range map[string]int{
			inLists(n, "x"):                        n + 1,
			inLists(n, "-"):                        n + 2,
			inLists(n, "[]"):                       n + 1,
			inLists(n, "[[]]"):                     n + 2,
			inLists(n, "{\"a\": [1]}"):             n + 3,
			inLists(n, "k: x"):                     n + 2,
			inLists(n, "k:"):                       n + 2,
			inLists(n, "k: []"):                    n + 2,
			inLists(n, "k: [1]"):                   n + 3,
			inLists(n, "k: |\n"+ahead(2*n+1, "x")): n + 2,
			inMaps(n, "x"):                         n + 1,
			inMaps(n, "k:"):                        n + 2,
			inMaps(n, "k: x"):                      n + 2,
			inMaps(n, "-"):                         n + 2,
			inMaps(n, "- x"):                       n + 2,
			inMaps(n, "[1]"):                       n + 2,
			inBoth(n, "x"):                         n + 1,
			inBoth(n, "{}"):                        n + 1,
			inBoth(n, "k: |\n x"):                  n + 2,
			"- x\n- - y\n" + inLists(n+2, "x") + "\n- z":                              n + 3,
			"x\n---\n" + inLists(n, "x") + "\n---\ny":                                 n + 1,
			"- x\n- " + strings.Repeat("[", n+1) + strings.Repeat("]", n+1) + "\n- y": n + 2,
		} {
			l, e := yamlsub.Parse(s)
			most := 0
			for _, v := range l {
				most = max(most, tree.Depth(v))
			}
			switch {
			case depth > 12:
				fails(t, s, api.ErrForm)
			case e != api.OK || most != depth:
				t.Errorf("Parse(%q): error %d, depth %d, want %d", s, int(e), most, depth)
			}
		}
	}
	// Many lists side by side are not deep.
	wide := strings.TrimSuffix(strings.Repeat("- - 1\n  - - 2\n", 100), "\n")
	for _, s := range []string{wide, inLists(8, "x") + "\n" + wide, item(1, item(1, wide)), ahead(20, wide)} {
		if _, e := yamlsub.Parse(s); e != api.OK {
			t.Errorf("Parse of many lists: %d", int(e))
		}
	}
}

// TestCount is of P6.1: the last count that may be, and the first one that may not, of each document.
func TestCount(t *testing.T) {
	for n := 1990; n <= 2010; n++ {
		dashes := strings.Repeat("-\n", n-1)
		ones := strings.Repeat("- 1\n", n-1)
		inLine := "[" + strings.TrimSuffix(strings.Repeat("1,", n-1), ",") + "]"
		keys := ""
		for i := range n - 1 {
			keys += fmt.Sprintf("k%d:\n", i)
		}
		for _, s := range []string{dashes, ones, keys, inLine, ones + "---\n" + dashes, "1\n---\n" + keys, "a:\n" + ahead(1, ones[4:]), "- " + inLine[:len(inLine)-3] + "]", "- [1]\n" + ones[8:], "- - 1\n" + ones[8:], "- a: 1\n" + ones[8:], "- a: |\n   1\n" + ones[8:]} {
			l, e := yamlsub.Parse(s)
			switch {
			case n > 2000:
				fails(t, s, api.ErrForm)
			case e != api.OK || tree.Count(l[len(l)-1]) != n:
				t.Errorf("Parse of %d (%s): error %d", n, short(strconv.Quote(s)), int(e))
			}
		}
	}
}

// literals are lines behind "k: |", and what they say.
var literals = []struct {
	l    string
	want string
}{
	{" x", "x\n"},
	{"  x", "x\n"},
	{"        x", "x\n"},
	{"  x\n  y", "x\ny\n"},
	{"  x\n  y\n  z", "x\ny\nz\n"},
	// a greater indent
	{"  x\n    y\n  z", "x\n  y\nz\n"},
	{"  x\n   y\n    z", "x\n y\n  z\n"},
	{"  x\n   y", "x\n y\n"},
	// lines that begin with #
	{"  # x\n  y", "# x\ny\n"},
	{"  x\n  # y\n  z", "x\n# y\nz\n"},
	{"  x\n    # y", "x\n  # y\n"},
	{"  #", "#\n"},
	{" #!/bin/sh\n  # x", "#!/bin/sh\n # x\n"},
	// lines of nothing but spaces ahead
	{"\n  x", "\nx\n"},
	{"\n\n  x", "\n\nx\n"},
	{" \n  x", "\nx\n"},
	{"  \n  x", "\nx\n"},
	{"   \n  x", " \nx\n"},
	{"      \n \n  x", "    \n\nx\n"},
	// between
	{"  x\n\n  y", "x\n\ny\n"},
	{"  x\n \n  y", "x\n\ny\n"},
	{"  x\n  \n  y", "x\n\ny\n"},
	{"  x\n   \n  y", "x\n \ny\n"},
	{"  x\n      \n\n \n    y", "x\n    \n\n\n  y\n"},
	// behind
	{"  x\n", "x\n"},
	{"  x\n\n\n", "x\n"},
	{"  x\n \n  \n   \n      ", "x\n"},
	// none
	{"", ""},
	{" ", ""},
	{"\n", ""},
	{"      ", ""},
	{"\n  \n     \n ", ""},
	// as they stand
	{"  x  ", "x  \n"},
	{"  x   \n  y ", "x   \ny \n"},
	{"  a: b\n  - c\n  |\n  ---\n  'd\n  \"\n  [", "a: b\n- c\n|\n---\n'd\n\"\n[\n"},
	{"  \\n\\u0041", "\\n\\u0041\n"},
	{"  k: |\n    x\n  y", "k: |\n  x\ny\n"},
	{"  null", "null\n"},
	{"  ~\n  1", "~\n1\n"},
	{"  x: y # z", "x: y # z\n"},
	{"  \u00e9\n   \U0001f600", "\u00e9\n \U0001f600\n"},
	{"  \u00a0\n  \u2028", "\u00a0\n\u2028\n"},
	{"  \x7f", "\x7f\n"},
}

// TestLiterals is of P6.1: literal texts.
func TestLiterals(t *testing.T) {
	for _, w := range literals {
		v := single("k", text(w.want))
		s := "k: |\n" + w.l
		parses(t, s, v)
		parses(t, s+"\n", v)
		parses(t, "k:   |  \n"+w.l, v)
		parses(t, "\"k\": |\n"+w.l, v)
		parses(t, s+"\n---\n"+s+"\n---", v, v)
		parses(t, s+"\n# c", v)
		parses(t, s+"\n# c\n   # d\n\nl: 1", fields(field("k", text(w.want)), field("l", number(1))))
		parses(t, s+"\nl: |\n"+w.l, fields(field("k", text(w.want)), field("l", text(w.want))))
		parses(t, "j: 1\n"+s+"\nl: 1", fields(field("j", number(1)), field("k", text(w.want)), field("l", number(1))))
		for n := range 4 {
			parses(t, ahead(n, s), v)
			parses(t, item(n+1, s)+"\n- x", list(v, text("x")))
			parses(t, item(1, item(n+1, s)+"\n- x"), list(list(v, text("x"))))
			parses(t, "-\n"+ahead(n+1, s)+"\n-", list(v, null()))
			parses(t, "a:\n"+ahead(n+1, s)+"\nb: 1", fields(field("a", v), field("b", number(1))))
		}
		wrong(t, s+"\nx", s+"\n# c\n x", s+"\n- x", ahead(1, s)+"\nl: 1", ahead(2, s)+"\n l: 1", "- |\n"+w.l)
		if w.want != "" && w.want[0] != '#' {
			wrong(t, "k: >\n"+w.l, "k: |-\n"+w.l, "k: |+\n"+w.l, "k: |2\n"+w.l, "k: | # c\n"+w.l, "k:|\n"+w.l, "k:\n  |\n"+w.l, "|\n"+w.l, "k: x\n"+w.l+"\n  z\n z", "# c\nk: |\n# c\n"+w.l)
		}
	}
	wrong(t,
		// a first line with a greater indent than those behind it
		"k: |\n   x\n  y", "k: |\n  x\n y", "k: |\n    x\n  y\n    z", "k: |\n   x\n\n  y", "k: |\n\n   x\n  y", "k: |\n    # x\n  y", "k: |\n  x\n # y", "k: |\n   x\n  # y", "k: |\n  x\n    y\n z", "k: |\n  x\n\n y\nl: 1", "- k: |\n     x\n    y", "- k: |\n    x\n   y",
		// lines beside the block, or at a less indent
		"k: |\nx", "k: |\n\nx", "- k: |\n  x", "- k: |\n x", "- k: |\nx", "a:\n  k: |\n  x", "a:\n  k: |\n x", "k: |\n# c\n  x", "k: |\n  x\n# c\n  y", "- k: |\n  # c\n    x", "- k: |\n    x\n # c\n    y",
		"|", "- |", "|\n  x", "k: |\n  x\n---\n  y\nz", "k: ||", "k: |\n  x\n  y\nz",
	)
	// A line that begins with # is in the text just if it has a greater indent.
	parses(t, "- k: |\n   # x\n  # y\n   # z\n\n  l: 1", list(fields(field("k", text("# x\n")), field("l", number(1)))))
	parses(t, "- k: |\n  # y\n   # z\n  l: 1", list(fields(field("k", text("")), field("l", number(1)))))
	parses(t, "- k: |\n # y\n     # z\n- 1", list(single("k", text("")), number(1)))
	parses(t, "a:\n  k: |\n    x\n  # c\n    # d\n  l: 1", single("a", fields(field("k", text("x\n")), field("l", number(1)))))
	long := strings.Repeat("x", 1000)
	parses(t, "k: |"+strings.Repeat("\n "+long, 50), single("k", text(strings.Repeat(long+"\n", 50))))
	parses(t, "k: |"+strings.Repeat("\n", 5000)+" x", single("k", text(strings.Repeat("\n", 4999)+"x\n")))
}

// TestScalars is of P6.1: JSON, single quotes, and plain ones.
func TestScalars(t *testing.T) {
	for s, v := range map[string]api.Value{
		// JSON
		`""`: text(""), `"x"`: text("x"), `"a b"`: text("a b"), `"a: b"`: text("a: b"), `"a # b"`: text("a # b"), `"- a"`: text("- a"), `"\n\t\u0041\\\"\/"`: text("\n\t\u0041\\\"/"), `"\ud83d\ude00"`: text("\U0001f600"), `"'"`: text("'"), `"null"`: text("null"), `"1"`: text("1"), "\"\u00e9\"": text("\u00e9"), `":"`: text(":"), `"a:"`: text("a:"),
		`[]`: list(), `[ ]`: list(), `[1]`: list(number(1)), `[1, "a: b", [null], {}]`: list(number(1), text("a: b"), list(null()), fields()), `[ 1 , 2 ]`: list(number(1), number(2)), `[true,false]`: list(boolean(1), boolean(0)),
		`{}`: fields(), `{ }`: fields(), `{"a":1}`: keyed("a"), `{"b": 1, "a": 2}`: keyed("b", "a"), `{ "a" : { "b" : [ ] } }`: single("a", single("b", list())), `{"a b": 1, ": ": 2, " #": 3}`: keyed("a b", ": ", " #"),
		// single quotes: none, one and two of its own
		"''": text(""), "'x'": text("x"), "' x '": text(" x "), "'a b'": text("a b"), "'it''s'": text("it's"), "''''": text("'"), "''''''": text("''"), "'''x'": text("'x"), "'x'''": text("x'"), "'''x'''": text("'x'"), "'a''b''c'": text("a'b'c"), "'a''''b'": text("a''b"), "'a: b'": text("a: b"), "'a # b'": text("a # b"), "'a:'": text("a:"), "'- a'": text("- a"), "'-'": text("-"), "'#'": text("#"), "'|'": text("|"), `'"'`: text(`"`), `'\n'`: text(`\n`), `'\u0041'`: text(`\u0041`), "'null'": text("null"), "'~'": text("~"), "'true'": text("true"), "'1'": text("1"), "'[1]'": text("[1]"), "'{}'": text("{}"), "'\u00e9'": text("\u00e9"), "'---'": text("---"), "' '": text(" "), "'a'' ''b'": text("a' 'b"),
		// nothing, and whether something is so
		"null": null(), "~": null(), "true": boolean(1), "false": boolean(0),
		// words in great letters, and others that say nothing else
		"Null": text("Null"), "NULL": text("NULL"), "True": text("True"), "TRUE": text("TRUE"), "False": text("False"), "FALSE": text("FALSE"), "yes": text("yes"), "no": text("no"), "on": text("on"), "off": text("off"), "nil": text("nil"), "none": text("none"), "nulll": text("nulll"), "nul": text("nul"), "truee": text("truee"), "tru": text("tru"), "fals": text("fals"), "~~": text("~~"), "~x": text("~x"), "x~": text("x~"), "null x": text("null x"), "true false": text("true false"), "-null": text("-null"), "-~": text("-~"),
		// numbers
		"0": number(0), "1": number(1), "-1": number(-1), "42": number(42), "-42": number(-42), "9223372036854775807": number(math.MaxInt64), "-9223372036854775808": number(math.MinInt64),
		// texts that are none
		"-0": text("-0"), "00": text("00"), "01": text("01"), "-01": text("-01"), "+1": text("+1"), "+": text("+"), "1.5": text("1.5"), "1.": text("1."), ".5": text(".5"), "1e5": text("1e5"), "0x10": text("0x10"), "0o7": text("0o7"), "1_000": text("1_000"), "1,000": text("1,000"), "9223372036854775808": text("9223372036854775808"), "-9223372036854775809": text("-9223372036854775809"), "18446744073709551617": text("18446744073709551617"), strings.Repeat("9", 100): text(strings.Repeat("9", 100)), "1 2": text("1 2"), "1-2": text("1-2"), "--1": text("--1"), "-1-": text("-1-"), "1a": text("1a"), "\u0661": text("\u0661"), ".inf": text(".inf"), "NaN": text("NaN"), "2026-11-20": text("2026-11-20"), "12:30": text("12:30"),
		// plain texts
		"x": text("x"), "a b": text("a b"), "a  b": text("a  b"), "a:b": text("a:b"), "a:b:c": text("a:b:c"), "a::b": text("a::b"), "a :b": text("a :b"), "a#b": text("a#b"), "a#": text("a#"), "a# b": text("a# b"), "a##b": text("a##b"), "a:#b": text("a:#b"), "a-b": text("a-b"), "a - b": text("a - b"), "a -": text("a -"), "-a": text("-a"), "-a b": text("-a b"), "--": text("--"), "-- a": text("-- a"), "---": text("---"), "--- a": text("--- a"), "-:a": text("-:a"), "-#": text("-#"), "-'": text("-'"), `-"`: text(`-"`), "-[": text("-["), "a'b": text("a'b"), "a''": text("a''"), "a'": text("a'"), `a"b"`: text(`a"b"`), "a[0]": text("a[0]"), "a{b}": text("a{b}"), "a]": text("a]"), "a}": text("a}"), "a,b, c": text("a,b, c"), "a|": text("a|"), "a | b": text("a | b"), "a > b": text("a > b"), "a & b": text("a & b"), "a*b *c": text("a*b *c"), "a!": text("a!"), "a ! b": text("a ! b"), "a%": text("a%"), "a@b.c": text("a@b.c"), "a ?": text("a ?"), "a?b": text("a?b"), "a`b`": text("a`b`"), "(a)": text("(a)"), "<a>": text("<a>"), "<<": text("<<"), "=": text("="), "$a": text("$a"), ";": text(";"), "^a$": text("^a$"), `\n`: text(`\n`), `\`: text(`\`), "/a/b": text("/a/b"), ".": text("."), "...": text("..."), "_": text("_"), "\u00e9": text("\u00e9"), "\u201ca\u201d": text("\u201ca\u201d"), "\u2013 a": text("\u2013 a"), "\U0001f600": text("\U0001f600"), "\x7f": text("\x7f"), "\ufeffa": text("\ufeffa"), "groups.all(g, g == user)": text("groups.all(g, g == user)"), "1 / 0 == 1 || true": text("1 / 0 == 1 || true"), "a ? b :c": text("a ? b :c"),
	} {
		says(t, s, v)
	}
	saysNothing(t,
		// JSON with something behind it, and what is none
		`"x" y`, `"x"y`, `"x""y"`, `"x",`, `"x" "y"`, `"x" # y`, `"x": y`, `"x":y`, `"`, `"x`, `"x\"`, `"\x"`, `"\ud83d"`, `"'`, `[1] x`, `[1]x`, `[1] # x`, `[1],`, `[1][2]`, `[1]]`, `[`, `[1`, `[1,]`, `[,]`, `[x]`, `['x']`, `[1.5]`, `[01]`, `[-0]`, `[~]`, `[1 2]`, `[]: 1`, `{} x`, `{}x`, `{} # x`, `{}}`, `{`, `{"a"}`, `{"a":1`, `{"a":1,}`, `{"a":1,"a":2}`, `{a: 1}`, `{'a': 1}`, `{"a":x}`, `{"a": 1}: 2`, `{]`, `[}`, "[9223372036854775808]",
		strings.Repeat("[", 12)+"1"+strings.Repeat("]", 12), "["+strings.Repeat("1,", 1999)+"1]",
		// single quotes that don't end, or have one of their own that is not twice
		"'", "'x", "'x''", "'''", "''x", "''x'", "'x'y'", "'x' y", "'x'y", "'x' 'y'", "'x' # y", "'x',", "'a'b''", "''a''", "'a''b'c'", "'''''", "'''x", "'''x''", "'a''", "'x' ''", "'x': y", "'x':", `'x"`, `'"`,
		// plain ones that begin with each byte that they may not begin with
		",", "]", "}", "#", "&", "*", "!", ">", "%", "@", "?", ":", "`", ",x", "]x", "}x", "#x", "&x", "*x", "!x", "|x", ">x", "%x", "@x", "?x", ":x", "`x", ", x", "] x", "} x", "# x", "& x", "* x", "! x", "| x", "> x", "% x", "@ x", "? x", ": x", "` x", "`x`", "||", "|-", ">-", "::", "##", "?:x", ",1", "!1", "*null",
		// - alone, and a space behind it
		"-", "- x", "- - x", "-  x", "- 1", "- -", "- :", "- #", "- 'x'",
		// a colon and a space, a space and #, a colon at the end
		"a: b", "a:  b", "a b: c", "a: b: c", "a:b: c", "a : b", "a: 1", "1: 2", "a:: b", "-: x", "a #", "a #b", "a # b", "a  # b", "a #b: c", "1 # x", "null # x", "~ #", "true #x", "- #x", "a:", "a b:", "a:b:", "a::", "a :", "1:", "null:", "-:", "--:", "~:", "\u00e9:", "\u00e9: \u00e9", "\u00e9 #",
	)
	scalar(t, "", null(), false)
	scalar(t, "|", null(), false)
	wrong(t, "|", "- |")
	for c := range 256 {
		for _, behind := range []string{"", "x", " x", "1"} {
			s := string([]byte{byte(c)}) + behind
			switch {
			case c < ' ' || c >= 0x80 || c == ' ':
			case strings.Contains(",]}#&*!>%@?:`", s[:1]), c == '|' && behind != "", c == '-' && (behind == "" || behind == " x"), strings.Contains("\"'[{", s[:1]):
				saysNothing(t, s)
			case c == '|' || c >= '0' && c <= '9' || c == '~' && behind == "" || c == '-' && behind == "1":
			default:
				says(t, s, text(s))
			}
		}
	}
}

// TestScalarAlone is of P6.1: Scalar asks a text as it stands, with the spaces about it, and whatever bytes it has.
func TestScalarAlone(t *testing.T) {
	for _, s := range []string{" ", " x", "x ", " null", "null ", "true ", " 1", "1 ", "~ ", " -", " - x", " [1]", " 'x'", ` "x"`, "x\ny", "\n", "\t", "x\t", "\x00", "\xff", "x\xff", "---\nx"} {
		scalar(t, s, text(s), true)
	}
	for _, s := range []string{"a: ", "- ", "-  ", ": ", " #", "  # x", "'x' ", "'x'\n", "a:", "\nx: y", ","} {
		scalar(t, s, null(), false)
	}
	scalar(t, "[1, \n\t2] ", list(number(1), number(2)), true)
	scalar(t, `"x" `, text("x"), true)
	scalar(t, "'\n'", text("\n"), true)
	scalar(t, "'\xff'", text("\xff"), true)
	scalar(t, "\"\xff\"", null(), false)
	scalar(t, "\"\n\"", null(), false)
	long := strings.Repeat("x", 70000)
	scalar(t, long, text(long), true)
	scalar(t, "'"+long+"'", text(long), true)
	scalar(t, `"`+long+`"`, null(), false)
	scalar(t, `"`+long[:65534]+`"`, text(long[:65534]), true)
}

// TestText is of P6.2: a value's line is its JSON.
func TestText(t *testing.T) {
	for _, w := range []struct {
		v    api.Value
		want string
	}{
		{null(), "null"},
		{boolean(1), "true"},
		{boolean(0), "false"},
		{number(0), "0"},
		{number(math.MinInt64), "-9223372036854775808"},
		{text(""), `""`},
		{text("x"), `"x"`},
		{text("null"), `"null"`},
		{text("1"), `"1"`},
		{text("---"), `"---"`},
		{text("a: b # c"), `"a: b # c"`},
		{text("a\nb\t\"'\\\x00\x7f\u00e9"), "\"a\\nb\\t\\\"'\\\\\\u0000\x7f\u00e9\""},
		{list(), "[]"},
		{fields(), "{}"},
		{list(null(), number(-1), text("x"), list(list())), `[null,-1,"x",[[]]]`},
		{keyed("b", "a", ""), `{"":3,"a":2,"b":1}`},
		{list(single("k", keyed("z", "y"))), `[{"k":{"y":2,"z":1}}]`},
	} {
		if s := yamlsub.Text(w.v); s != w.want {
			t.Errorf("Text(%s): %q, want %q", told(w.v), s, w.want)
		}
	}
	for _, w := range ordinary {
		follows(t, w.v)
	}
}

// follows is P6.2 and P6.3 of a value that may be: its line is its JSON, and is parsed.
func follows(t *testing.T, v api.Value) {
	t.Helper()
	s := yamlsub.Text(v)
	if want := jsonval.Text(v); s != want {
		t.Errorf("Text(%s): %s, want %s", short(told(v)), short(strconv.Quote(s)), short(strconv.Quote(want)))
	}
	if len(s) > api.MaxBytes {
		fails(t, s, api.ErrSize)
		return
	}
	parses(t, s, tree.Canon(v))
	if l, _ := yamlsub.Parse(s); len(l) != 1 || !tree.Same(l[0], v) {
		t.Errorf("what was written of %s is parsed as %s", short(told(v)), short(told(l...)))
	}
}

// TestJSON is of P6.3: what is JSON without bytes below 20 is a document, and says the same.
func TestJSON(t *testing.T) {
	for _, s := range []string{
		"null", "true", "false", "0", "-1", "9223372036854775807", `""`, `"a"`, `"a: b"`, `"a" `, ` "a"`, `"- a"`, `"#"`, `"a #b"`, `"\n"`, `"---"`, "[]", "{}", " [ ] ", "   { }   ", "[1,2]", "[ 1 , 2 ]", `{"a":1}`, `{"a": 1}`, `{ "a" : 1 , "b" : [ ] }`, `{"a": {"a": {"a": 1}}}`, `["a: b", "# c", "'d'"]`, `{"": ""}`, `{"a b: c": "d: e"}`, "  1", "1  ", " null ", "[[[[[[[[[[[1]]]]]]]]]]]", "\"\x7f\u00e9\u2028\U0001f600\"", `{"b":1,"a":2}`,
	} {
		v, e := jsonval.Parse(s)
		if e != api.OK {
			t.Errorf("%q is no JSON", s)
		}
		parses(t, s, v)
		parses(t, "---\n"+s+"\n---\n"+s, v, v)
		// A line's end is no blank here.
		wrong(t, "[1,\n"+s+"]", "{\"a\":\n"+s+"}")
	}
}

// TestHandedIn is of R3: what is handed in stays as it is, and so does the room behind it.
func TestHandedIn(t *testing.T) {
	for _, v := range []api.Value{keyed("b", "a"), list(keyed("d", "c"), text("x"), list()), fields(field("z", keyed("q", "p")), field("b", list(keyed("y", "x"))), field("a", null()))} {
		v := roomy(v)
		before := toldRoom(v)
		first := yamlsub.Text(v)
		if second := yamlsub.Text(v); first != second {
			t.Errorf("Text: %s, then %s", first, second)
		}
		if after := toldRoom(v); after != before {
			t.Errorf("%s was changed: %s", before, after)
		}
	}
}

// roomy is v in new memory, each of its lists with room behind it, so that a call that writes there is found out.
func roomy(v api.Value) api.Value {
	out := api.Value{Kind: v.Kind, Int: v.Int, Text: v.Text, List: make([]api.Value, 0, len(v.List)+3), Fields: make([]api.Field, 0, len(v.Fields)+3)}
	for _, x := range v.List {
		out.List = append(out.List, roomy(x))
	}
	for _, f := range v.Fields {
		out.Fields = append(out.Fields, field(f.Key, roomy(f.Value)))
	}
	return out
}

// spread hands all lists of v, with the room behind each, to change.
func spread(v api.Value, change func(l []api.Value, fs []api.Field)) {
	for _, x := range v.List {
		spread(x, change)
	}
	for _, f := range v.Fields {
		spread(f.Value, change)
	}
	change(v.List[:cap(v.List)], v.Fields[:cap(v.Fields)])
}

// toldRoom is what is told of v with the room behind its lists.
func toldRoom(v api.Value) string {
	var b strings.Builder
	spread(v, func(l []api.Value, fs []api.Field) { b.WriteString(told(list(l...), fields(fs...))) })
	return b.String()
}

// TestToldApart is of R3: no two answers share a list, nor do two lists of one.
func TestToldApart(t *testing.T) {
	s := lines("b:", "  - 1", "  - - 2", "    - 3", "    - 4", "  - d: 1", "    c: [5, 6, 7]", "a:", "  y: {}", "  x:", "    - []", "    - - 8", "---", "- 9", "- 10", "- 11", "---", "e: 1", "f: 2", "g: 3")
	l, _ := yamlsub.Parse(s)
	want := told(l...)
	other, _ := yamlsub.Parse(s)
	// Whatever is written behind a list is in no other one.
	var room func(l []api.Value)
	room = func(l []api.Value) {
		for _, v := range l {
			room(v.List)
			for _, f := range v.Fields {
				room([]api.Value{f.Value})
			}
			_ = append(v.List, text("spoilt"))
			_ = append(v.Fields, field("spoilt", text("spoilt")))
		}
	}
	room(l)
	if got := told(l...); got != want {
		t.Errorf("two lists share memory: %s", got)
	}
	for _, v := range l {
		spread(v, func(l []api.Value, fs []api.Field) {
			for i := range l {
				l[i] = text("spoilt")
			}
			for i := range fs {
				fs[i] = field("spoilt", text("spoilt"))
			}
		})
	}
	clear(l)
	if got := told(other...); got != want {
		t.Errorf("two answers share memory: %s", got)
	}
	parses(t, s, other...)
}

// TestVeryLong is of P1 and R5: texts and values far beyond what may be.
func TestVeryLong(t *testing.T) {
	for _, bit := range []string{"[", "]", "{", "}", `"`, `\`, "'", "''", "-", "- ", "-\n", "- -\n", "- [", "0", "1", ",", ":", ": ", "a: ", "a:\n", "k: |\n", " ", "#", "\n", "---\n", "x", "null", "null\n", "[]", "[[],", `{"":`, `"a": `, `"a":`, "\t", "\x00", "\xff", "\u00e9", "|", "~"} {
		s := strings.Repeat(bit, api.MaxBytes/len(bit))
		for _, whole := range []string{s, "- " + s[:api.MaxBytes-10], "k: " + s[:api.MaxBytes-10], "k: |\n  " + s[:api.MaxBytes-10], `"` + s[:api.MaxBytes-10], "'" + s[:api.MaxBytes-10], "\n" + s[:api.MaxBytes-10]} {
			if l, e := yamlsub.Parse(whole); e != api.OK && e != api.ErrForm || e != api.OK && len(l) > 0 {
				t.Errorf("Parse(%s): %d values, %d", short(whole), len(l), int(e))
			}
			yamlsub.Scalar(whole)
		}
		fails(t, strings.Repeat(s, 20), api.ErrSize)
		yamlsub.Scalar(strings.Repeat(s, 20))
		yamlsub.Scalar("'" + strings.Repeat(s, 20) + "'")
	}
	stairs := ""
	for i := 0; len(stairs) < api.MaxBytes-2000; i++ {
		stairs += strings.Repeat(" ", i) + "-\n"
	}
	fails(t, stairs, api.ErrForm)
	fails(t, strings.ReplaceAll(stairs, "-", "k:"), api.ErrForm)
	deep, deepMaps := null(), null()
	for range 50000 {
		deep, deepMaps = list(deep), single("k", deepMaps)
	}
	for _, v := range []api.Value{
		deep, deepMaps, list(make([]api.Value, 300000)...), fields(make([]api.Field, 300000)...), text(strings.Repeat("\n", 1<<20)),
		{Kind: 6}, {Kind: -1, Int: 5}, {Kind: math.MaxInt, Text: "x"}, {Kind: math.MinInt}, boolean(2), boolean(-1), text("\xff"), keyed("\xff"), keyed("a", "a"), {Kind: api.KindText, List: []api.Value{null()}}, {Kind: api.KindMap, List: []api.Value{null()}, Text: "x", Int: 1},
	} {
		yamlsub.Text(v)
	}
}

// TestSame is of R4: the same calls have the same answers, whatever was asked between.
func TestSame(t *testing.T) {
	for range 3 {
		TestExamples(t)
		TestOrdinary(t)
		TestDocuments(t)
		TestLiterals(t)
		TestScalars(t)
		TestText(t)
	}
}
