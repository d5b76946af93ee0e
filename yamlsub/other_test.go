package yamlsub_test

import (
	"math/rand"
	"regexp"
	"slices"
	"strconv"
	"strings"
	"testing"
	"unicode/utf8"

	"vestibule/api"
	"vestibule/jsonval"
	"vestibule/tree"
)

// Another reader: it cuts a block's lines into those of each item or field, and asks what a text is by regular expressions.

var (
	badByte   = regexp.MustCompile(`[\x00-\x09\x0b-\x1f]`)
	parting   = regexp.MustCompile(`(?m)^---$`)
	aLine     = regexp.MustCompile(`^( *)(.*?) *$`)
	anItem    = regexp.MustCompile(`^(-(?: +|$))(.*)$`)
	aField    = regexp.MustCompile(`^(?:([A-Za-z0-9_./-]+)|("(?:[^"\\]|\\.)*")):(?: +(.*))?$`)
	isJSON    = regexp.MustCompile(`^["\[{]`)
	quotedOne = regexp.MustCompile(`(?s)^'((?:[^']|'')*)'$`)
	noPlain   = regexp.MustCompile("(?s)^[',\\]}#&*!|>%@?:`]|^-$|^- |: | #|:$|^$")
	aNumber   = regexp.MustCompile(`^(?:0|-?[1-9][0-9]*)$`)
)

// row is a line, cut; of one that is passed over text is nothing.
type row struct {
	whole, text string
	indent      int
}

func isPassed(r row) bool { return r.text == "" }
func isBlank(r row) bool  { return strings.Trim(r.whole, " ") == "" }

func plainParse(s string) ([]api.Value, bool) {
	var out []api.Value
	if !utf8.ValidString(s) || badByte.MatchString(s) {
		return nil, false
	}
	for _, doc := range parting.Split(s, -1) {
		var rows []row
		for whole := range strings.SplitSeq(doc, "\n") {
			m := aLine.FindStringSubmatch(whole)
			if strings.HasPrefix(m[2], "#") {
				m[2] = ""
			}
			rows = append(rows, row{whole, m[2], len(m[1])})
		}
		first := slices.IndexFunc(rows, func(r row) bool { return !isPassed(r) })
		if first < 0 {
			continue
		}
		v, ok := plainBlock(rows[first:], 1)
		if !ok || !tree.Check(v) {
			return nil, false
		}
		out = append(out, v)
	}
	return out, true
}

// plainBlock is the value of a block that has all these lines; the first one is not passed over.
func plainBlock(rows []row, deep int) (api.Value, bool) {
	var parts [][]row
	for i, r := range rows {
		switch {
		case i > 0 && (isPassed(r) || r.indent > rows[0].indent):
			parts[len(parts)-1] = append(parts[len(parts)-1], r)
		case r.indent < rows[0].indent:
			return null(), false
		default:
			parts = append(parts, []row{r})
		}
	}
	v := null()
	ok := deep <= 12
	isList, isMap := anItem.MatchString(rows[0].text), aField.MatchString(rows[0].text)
	for _, part := range parts {
		head, rest := part[0], part[1:]
		x, is := null(), false
		switch {
		case !ok:
		case isList:
			v.Kind = api.KindList
			if m := anItem.FindStringSubmatch(head.text); m != nil {
				x, is = plainItem(row{"", m[2], head.indent + len(m[1])}, rest, deep)
			}
			v.List = append(v.List, x)
		case isMap:
			v.Kind = api.KindMap
			key := ""
			if m := aField.FindStringSubmatch(head.text); m != nil {
				said, e := jsonval.Parse(m[2])
				key = m[1] + said.Text
				x, is = plainHeld(m[3], rest, head.indent, deep)
				is = is && (m[1] != "" || e == api.OK)
			}
			v.Fields = append(v.Fields, field(key, x))
		default:
			v, is = plainScalar(head.text)
			is = is && len(parts) == 1 && all(rest, isPassed)
		}
		ok = ok && is
	}
	return v, ok
}

// plainItem is an item, of what stands behind its dash and of the lines behind that.
func plainItem(head row, rest []row, deep int) (api.Value, bool) {
	if head.text == "" {
		return plainBelow(rest, deep)
	}
	return plainBlock(append([]row{head}, rest...), deep+1)
}

// plainHeld is a field's value, of what stands behind its colon and of the lines behind that.
func plainHeld(s string, rest []row, indent, deep int) (api.Value, bool) {
	switch s {
	case "":
		return plainBelow(rest, deep)
	case "|":
		n := slices.IndexFunc(rest, func(r row) bool { return !isBlank(r) && r.indent <= indent })
		if n < 0 {
			n = len(rest)
		}
		said, ok := plainLiteral(rest[:n])
		return text(said), ok && all(rest[n:], isPassed)
	}
	v, ok := plainScalar(s)
	return v, ok && all(rest, isPassed)
}

func plainBelow(rest []row, deep int) (api.Value, bool) {
	for i, r := range rest {
		if !isPassed(r) {
			return plainBlock(rest[i:], deep+1)
		}
	}
	return null(), true
}

func plainLiteral(rows []row) (string, bool) {
	out, margin := "", ""
	for len(rows) > 0 && isBlank(rows[len(rows)-1]) {
		rows = rows[:len(rows)-1]
	}
	for _, r := range rows {
		if margin == "" && !isBlank(r) {
			margin = strings.Repeat(" ", r.indent)
		}
	}
	for _, r := range rows {
		rest, has := strings.CutPrefix(r.whole, margin)
		switch {
		case has:
			out += rest
		case !isBlank(r):
			return "", false
		}
		out += "\n"
	}
	return out, true
}

func plainScalar(s string) (api.Value, bool) {
	if isJSON.MatchString(s) {
		v, e := jsonval.Parse(s)
		return v, e == api.OK
	}
	if m := quotedOne.FindStringSubmatch(s); m != nil {
		return text(strings.Join(strings.Split(m[1], "''"), "'")), true
	}
	if noPlain.MatchString(s) {
		return null(), false
	}
	if aNumber.MatchString(s) {
		if n, err := strconv.ParseInt(s, 10, 64); err == nil {
			return number(n), true
		}
	}
	if i := slices.Index([]string{"null", "~", "false", "true"}, s); i >= 0 {
		return []api.Value{null(), null(), boolean(0), boolean(1)}[i], true
	}
	return text(s), true
}

func all(rows []row, ask func(r row) bool) bool {
	return !slices.ContainsFunc(rows, func(r row) bool { return !ask(r) })
}

// holds holds Parse of a text that is not too long, and Scalar, against the other reader; it tells whether the text was parsed, and says something.
func holds(t *testing.T, s string) bool {
	t.Helper()
	want, ok := plainParse(s)
	if ok {
		parses(t, s, want...)
	} else {
		fails(t, s, api.ErrForm)
	}
	v, is := plainScalar(s)
	if !is {
		v = null()
	}
	scalar(t, s, v, is)
	sameLine(t, s, v, is)
	asJSON(t, s)
	return len(want) > 0
}

// sameLine is of P6.1: Scalar says the same of a line's text as Parse of such a line.
func sameLine(t *testing.T, s string, v api.Value, is bool) {
	t.Helper()
	switch {
	case s == "" || s == "|" || strings.Contains(s, "\n") || strings.Trim(s, " ") != s || !utf8.ValidString(s) || badByte.MatchString(s):
	case is:
		parses(t, "k: "+s, single("k", v))
		parses(t, "- "+s, list(v))
		parses(t, " "+s, v)
	default:
		wrong(t, "k: "+s)
	}
}

// asJSON is P6.3 of a text: if it is JSON without bytes below 20, it says the same.
func asJSON(t *testing.T, s string) {
	t.Helper()
	v, e := jsonval.Parse(s)
	if e == api.OK && !badByte.MatchString(s) && !strings.Contains(s, "\n") {
		parses(t, s, v)
		follows(t, v)
	}
}

// holdsAll holds all texts of up to so many parts against the other reader; some of them have to say something.
func holdsAll(t *testing.T, of []string, most int) {
	t.Helper()
	right := 0
	texts := []string{""}
	for range most {
		var longer []string
		for _, s := range texts {
			for _, more := range of {
				longer = append(longer, s+more)
			}
		}
		for _, s := range longer {
			if t.Failed() {
				return
			}
			if holds(t, s) {
				right++
			}
		}
		texts = longer
	}
	if right < 50 {
		t.Errorf("only %d of the texts of %q say something: too few to tell", right, of)
	}
}

// TestShortTexts is of P6.1 and P6.3: all texts of a few parts.
func TestShortTexts(t *testing.T) {
	for _, w := range []struct {
		of   []string
		most int
	}{
		{[]string{"a", ":", " ", "-", "\n", "|", "#"}, 6},
		{[]string{"- ", "a:", " ", "\n", "x"}, 7},
		{[]string{"a: |\n", "- ", "  ", " ", "\n", "x", "#"}, 5},
		{[]string{"'", "a", " ", ":", "#", "-"}, 6},
		{[]string{`"a"`, `"`, ":", " ", "[", "]", "1", "\n", "- "}, 5},
		{[]string{"---", "\n", " ", "a", "#", "-"}, 6},
		{[]string{"n", "null", "~", "true", "false", "0", "1", "-", " ", "E", "."}, 4},
		{[]string{"{", `"a"`, ":", " ", "}", "1", ",", "\n", "\t"}, 5},
		{[]string{"a", ",", "]", "}", "#", "&", "*", "!", "|", ">", "%", "@", "?", ":", "`", " ", "-", "'", `"`, "[", "{", "~", "\xff", "\xc3\xa9", "\x00", "\n"}, 3},
	} {
		holdsAll(t, w.of, w.most)
	}
}

// TestShortLines is of P6.1: all texts of a few lines with all of a few indents.
func TestShortLines(t *testing.T) {
	for _, w := range []struct {
		of            []string
		indents, most int
	}{
		{[]string{"- a", "a:", "b: 1", "-", "- b: 1", "a: |"}, 5, 3},
		{[]string{"-", "- a: 1", "b: 1", "a:", ""}, 3, 4},
		{[]string{"- - 1", "- a:", "- 2", "b: 3"}, 5, 3},
		{[]string{"a: |", "x", "#", "", "b: 1"}, 3, 4},
		{[]string{"-  a: |", "b: |", "x", ""}, 4, 3},
	} {
		var of []string
		for _, s := range w.of {
			for indent := range w.indents {
				of = append(of, strings.Repeat(" ", indent)+s+"\n")
			}
		}
		holdsAll(t, of, w.most)
	}
}

// Another writer: of blocks, in all of the ways that they may be written.

type writer struct {
	*rand.Rand
	// behindLiteral: the last line is one of a literal text, behind which none is passed over that begins with #.
	behindLiteral bool
}

var someTexts = []string{"", "x", "a b", "a: b", "a:", "- a", "-", "#", "a #b", "'", "''", "it's", `"`, `\`, "null", "~", "true", "1", "-0", "01", "9223372036854775808", "[", "{}", "|", "\u00e9", "\U0001f600", "\u2028", "---", " x", "x ", "\n", "\n\n", "x\n", "x\ny\n", "x\n  y\n", "\nx\n", "x\n\n \ny\n", "  \n x\n", "# x\n", "k: |\n  x\n", "x\n\n", "\tx\n", "x\x00"}

var someKeys = []string{"a", "b", "k-1", "app.kubernetes.io/name", "_", "-", "null", "1", "", "a b", "a: b", "#", "- x", "\n", `"`, "\u00e9", "it's"}

// value is some value that may be, no deeper than left.
func (w *writer) value(left int) api.Value {
	kind := w.Intn(6)
	if left <= 1 {
		kind = w.Intn(4)
	}
	v := api.Value{Kind: kind}
	switch kind {
	case api.KindBool:
		v.Int = int64(w.Intn(2))
	case api.KindInt:
		v.Int = int64(w.Uint64()) >> w.Intn(64)
	case api.KindText:
		v.Text = someTexts[w.Intn(len(someTexts))]
	case api.KindList:
		for range w.Intn(4) {
			v.List = append(v.List, w.value(left-1))
		}
	case api.KindMap:
		for _, i := range w.Perm(len(someKeys))[:w.Intn(4)] {
			v.Fields = append(v.Fields, field(someKeys[i], w.value(left-1)))
		}
	}
	return v
}

func (w *writer) spaces(most int) string { return strings.Repeat(" ", w.Intn(most+1)) }

// next begins a line at that place; lines that are passed over may stand ahead of it.
func (w *writer) next(place int) string {
	s := w.spaces(2) + "\n"
	if w.behindLiteral {
		s = "\n"
	}
	for w.Intn(4) == 0 {
		if w.behindLiteral {
			s += w.spaces(6) + "\n"
		} else {
			s += w.spaces(6) + []string{"", "#", "# c: d", "#- x"}[w.Intn(4)] + "\n"
		}
	}
	w.behindLiteral = false
	return s + strings.Repeat(" ", place)
}

// block writes a value from that place in a line on.
func (w *writer) block(v api.Value, place int) string {
	var l []string
	if told(v) == told(tree.Canon(v)) && w.Intn(6) == 0 {
		return w.scalar(v)
	}
	for _, x := range v.List {
		l = append(l, "-"+w.item(x, place)+w.between(v, len(l), place))
	}
	for _, f := range v.Fields {
		l = append(l, w.key(f.Key)+":"+w.held(f.Value, place)+w.between(v, len(l), place))
	}
	if len(l) == 0 {
		return w.scalar(v)
	}
	return strings.Join(l, "")
}

// between is what stands behind the item or field with that number.
func (w *writer) between(v api.Value, i, place int) string {
	if i == len(v.List)+len(v.Fields)-1 {
		return ""
	}
	return w.next(place)
}

func (w *writer) item(v api.Value, place int) string {
	if v.Kind == api.KindNull && w.Intn(2) == 0 {
		return ""
	}
	if w.Intn(3) == 0 {
		return w.below(v, place)
	}
	s := " " + w.spaces(2)
	return s + w.block(v, place+1+len(s))
}

func (w *writer) held(v api.Value, place int) string {
	switch {
	case v.Kind == api.KindNull && w.Intn(2) == 0:
		return ""
	case v.Kind == api.KindText && isLiteral(v.Text) && w.Intn(3) > 0:
		return " " + w.spaces(2) + "|" + w.spaces(1) + w.literal(v.Text, place)
	case told(v) == told(tree.Canon(v)) && w.Intn(4) > 0:
		return " " + w.spaces(2) + w.scalar(v)
	}
	return w.below(v, place)
}

func (w *writer) below(v api.Value, place int) string {
	place += 1 + w.Intn(3)
	s := w.next(place)
	return s + w.block(v, place)
}

func (w *writer) key(s string) string {
	if regexp.MustCompile(`^[A-Za-z0-9_./-]+$`).MatchString(s) && w.Intn(3) > 0 {
		return s
	}
	return jsonval.Quote(s)
}

// isLiteral tells whether lines can be written that say a text.
func isLiteral(s string) bool {
	lines := strings.Split(s, "\n")
	if s == "" {
		return true
	}
	first := slices.IndexFunc(lines, func(l string) bool { return strings.Trim(l, " ") != "" })
	return first >= 0 && lines[first][0] != ' ' && strings.HasSuffix(s, "\n") && len(lines) > 1 && strings.Trim(lines[len(lines)-2], " ") != "" && !badByte.MatchString(s)
}

func (w *writer) literal(s string, place int) string {
	margin := strings.Repeat(" ", place+1+w.Intn(3))
	out := ""
	for _, l := range strings.Split(s, "\n")[:strings.Count(s, "\n")] {
		if l == "" && w.Intn(2) == 0 {
			out += "\n" + margin[:w.Intn(len(margin))]
		} else {
			out += "\n" + margin + l
		}
	}
	w.behindLiteral = true
	return out
}

func (w *writer) scalar(v api.Value) string {
	var forms []string
	if x, ok := plainScalar(v.Text); ok && v.Kind == api.KindText && told(x) == told(v) && !strings.Contains(v.Text, "\n") && !badByte.MatchString(v.Text) && strings.Trim(v.Text, " ") == v.Text && v.Text != "---" {
		forms = append(forms, v.Text)
	}
	if v.Kind == api.KindText && !badByte.MatchString(v.Text) && !strings.Contains(v.Text, "\n") {
		forms = append(forms, "'"+strings.ReplaceAll(v.Text, "'", "''")+"'")
	}
	if v.Kind == api.KindNull {
		forms = append(forms, "~")
	}
	forms = append(forms, jsonval.Text(v))
	return forms[w.Intn(len(forms))]
}

// TestSomeValues is of P6.1 to P6.3: values of all sorts, written in all of the ways, one or several in a text.
func TestSomeValues(t *testing.T) {
	w := &writer{Rand: rand.New(rand.NewSource(6))}
	deep, parsed := 0, 0
	for i := range 40000 {
		if t.Failed() {
			return
		}
		var want []api.Value
		s := ""
		for range 1 + w.Intn(2) {
			v := w.value(1 + i%7)
			place := w.Intn(3)
			s += []string{"", "# c\n", "\n  \n"}[w.Intn(3)] + strings.Repeat(" ", place) + w.block(v, place) + "\n---\n"
			w.behindLiteral = false
			want = append(want, v)
			deep = max(deep, tree.Depth(v))
			follows(t, v)
		}
		parses(t, s, want...)
		holds(t, s)
		parsed++
	}
	if deep < 6 || parsed < 40000 {
		t.Errorf("%d texts, %d deep: too few to tell", parsed, deep)
	}
}

// TestSomeTexts is of P6.1: texts of values, with something changed, against the other reader.
func TestSomeTexts(t *testing.T) {
	w := &writer{Rand: rand.New(rand.NewSource(7))}
	bits := []string{"", " ", "  ", "\n", "\n ", "-", "- ", ":", ": ", "a:", "a: 1\n", "|", "#", "'", `"`, "[", "]", "{", "}", ",", "---\n", "\n---", "x", "1", "~", "\t", "\x00", "\xff", "\xc3\xa9"}
	right := [2]int{}
	for i := range 60000 {
		if t.Failed() {
			return
		}
		s := w.block(w.value(1+i%5), 0)
		w.behindLiteral = false
		for range 1 + w.Intn(2) {
			from := w.Intn(len(s) + 1)
			to := min(len(s), from+w.Intn(3))
			s = s[:from] + bits[w.Intn(len(bits))] + s[to:]
		}
		if holds(t, s) {
			right[1]++
		} else {
			right[0]++
		}
	}
	if min(right[0], right[1]) < 5000 {
		t.Errorf("%d texts say nothing, %d do: too few to tell", right[0], right[1])
	}
}

// FuzzParse is of P1, P6.1 and P6.3: whatever the text is, Parse and Scalar say what another reader says.
func FuzzParse(f *testing.F) {
	for _, w := range ordinary {
		f.Add(w.s)
	}
	for _, w := range literals {
		f.Add("- k: |\n  " + w.l + "\n  # c\n  l: 'it''s'\n---\n\"a b\": [1]")
	}
	f.Fuzz(func(t *testing.T, s string) {
		if len(s) > api.MaxBytes {
			fails(t, s, api.ErrSize)
			return
		}
		holds(t, s)
	})
}
