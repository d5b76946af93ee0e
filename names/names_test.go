package names_test

import (
	"math/rand"
	"regexp"
	"strings"
	"testing"

	"vestibule/names"
)

// The bytes that may be, written out.
const (
	smalls  = "abcdefghijklmnopqrstuvwxyz"
	greats  = "ABCDEFGHIJKLMNOPQRSTUVWXYZ"
	numbers = "0123456789"
	signs   = "!\"#$%&'()*+,-./:;<=>?@[\\]^_`{|}~"
)

// call is one of the calls, how it is named, and what another reader of the chapter says in its place.
type call struct {
	name string
	got  func(s string) bool
	want func(s string) bool
}

// calls are all of them.
func calls() []call {
	return []call{
		{"Label", names.Label, asLabel},
		{"Subdomain", names.Subdomain, asSubdomain},
		{"Segment", names.Segment, asSegment},
		{"LabelValue", names.LabelValue, asLabelValue},
		{"LabelKey", names.LabelKey, asLabelKey},
		{"Verb", names.Verb, asVerb},
		{"Path", names.Path, asPath},
	}
}

var (
	labels     = regexp.MustCompile(`\A[a-z0-9]([-a-z0-9]{0,61}[a-z0-9])?\z`)
	subdomains = regexp.MustCompile(`\A[a-z0-9]([-a-z0-9]{0,61}[a-z0-9])?(\.[a-z0-9]([-a-z0-9]{0,61}[a-z0-9])?)*\z`)
	segments   = regexp.MustCompile(`\A[!-$&-.0-~]{1,253}\z`)
	values     = regexp.MustCompile(`\A([A-Za-z0-9]([-_.A-Za-z0-9]{0,61}[A-Za-z0-9])?)?\z`)
	verbs      = regexp.MustCompile(`\A[a-z]{1,32}\z`)
	paths      = regexp.MustCompile(`\A/[!-~]{0,511}\z`)
)

func asLabel(s string) bool      { return labels.MatchString(s) }
func asSubdomain(s string) bool  { return len(s) < 254 && subdomains.MatchString(s) }
func asSegment(s string) bool    { return segments.MatchString(s) && s != "." && s != ".." }
func asLabelValue(s string) bool { return values.MatchString(s) }
func asVerb(s string) bool       { return verbs.MatchString(s) }
func asPath(s string) bool       { return paths.MatchString(s) }

func asLabelKey(s string) bool {
	parts := strings.Split(s, "/")
	name := parts[len(parts)-1]
	return name != "" && asLabelValue(name) && (len(parts) == 1 || len(parts) == 2 && asSubdomain(parts[0]))
}

// byName is the call of a name.
func byName(t *testing.T, name string) call {
	t.Helper()
	for _, c := range calls() {
		if c.name == name {
			return c
		}
	}
	t.Fatalf("no call %s", name)
	return call{}
}

// says holds a call against what is written here.
func (c call) says(t *testing.T, s string, want bool) {
	t.Helper()
	if got := c.got(s); got != want {
		t.Errorf("%s(%.80q) of %d bytes: %v, want %v", c.name, s, len(s), got, want)
	}
}

// agree holds all calls against the other readers.
func agree(t *testing.T, s string) {
	t.Helper()
	for _, c := range calls() {
		c.says(t, s, c.want(s))
	}
}

// times is s, n times.
func times(s string, n int) string { return strings.Repeat(s, n) }

// long253 is a subdomain of 253 bytes: four labels, the first three as long as they may be.
func long253() string {
	return times("a", 63) + "." + times("b", 63) + "." + times("c", 63) + "." + times("d", 61)
}

// written are texts, and whether they may be, as the document writes it.
var written = []struct {
	call    string
	yes, no []string
}{
	{"Label",
		[]string{"a", "z", "0", "9", "ab", "a0", "0a", "00", "a-b", "a--b", "0-9", "a-0-z", "xn--a", "1234", "kube-system"},
		[]string{"", "-", "--", "-a", "a-", "-a-", "a-b-", "A", "Z", "Ab", "aB", "aBc", "a.b", "a.", ".a", ".", "a_b", "_", "a b", " a", "a ", " ", "a/b", "a%b", "a:b", "a\x00", "\x00", "a\n", "\na", "a\nb", "\xc3\xa9", "a\xc3\xa9b", "a\xffb", "\xff", "\uff41", "a\u0661", "\u017f", "\u212a"}},
	{"Subdomain",
		[]string{"a", "0", "a.b", "a.b-c", "a.b.c", "0.0", "a-b.c-d", "a--b.c", "127.0.0.1", "rbac.authorization.k8s.io", "a.b.c.d.e.f.g.h"},
		[]string{"", ".", "..", "a.", ".a", "a..b", "a...b", "..a", "a..", ".a.", "-", "-.a", "a.-", "a-.b", "a.-b", "-a.b", "a.b-", "a.-.b", "A", "A.b", "a.B", "a.bC", "a_b", "a.b_c", "a/b", "a.b/c", "a b", "a. b", " a.b", "a.b ", "a.b\n", "\n", "a.\x00", "a.\xc3\xa9", "a\u3002b", "a.\xff"}},
	{"Segment",
		[]string{"a", "A", "0", "...", "....", ".a", "a.", "..a", "a..", "a..b", "-", "_", "~", "!", "-a-", "system:masters", "a:b", "A.B_c-D", "*", "a*", "\"", "'", "\\", "{}", "[]", "a=b", "a?b", "a#b", "a&b", "@", "^`|", "$", "+", ",;<>()"},
		[]string{"", ".", "..", "/", "//", "/a", "a/", "a/b", "./", "/.", "../", "%", "%%", "%a", "a%", "a%b", "%2f", "%2e", ".%", " ", " a", "a ", "a b", ". .", ".. ", "\t", "a\tb", "\x00", "a\x00", "\x1f", "a\x1f", "\x7f", "a\x7f", "\x7fa", "\x80", "a\x80", "a\xff", "\xff", "a\n", "\n", "\xc3\xa9", "a\xc3\xa9"}},
	{"LabelValue",
		[]string{"", "a", "A", "0", "Z9", "a-b", "a_b", "a.b", "A-B", "a--b", "a__b", "a..b", "a-_.b", "a.-_9", "A.b_C-d", "1.2.3", "9_9", "v1.28.0-rc_1"},
		[]string{"-", "_", ".", "--", "__", "..", "-a", "_a", ".a", "a-", "a_", "a.", "-a-", "_a_", ".a.", "a-b-", "A.", ".A", "a/b", "/", "a/", "/a", "a b", " ", " a", "a ", "a:b", "a%b", "a@b", "a\x00b", "\x00", "a\n", "\n", "a\nb", "\xc3\xa9", "a\xc3\xa9b", "\xff", "a\xffb", "\u212a", "a\u0661b", "\uff21"}},
	{"LabelKey",
		[]string{"a", "A", "0", "a-b", "a_b", "a.b", "A.b_C-d", "a..b", "a/b", "a.b/c_d", "a.b/C", "0/0", "a-b.c/d", "a/B.c", "app.kubernetes.io/name", "a.b.c/1..2"},
		[]string{"", "/", "//", "a/", "a.b/", "/a", "/a.b", "a//b", "//a", "a//", "a/b/c", "a.b/c/d", "a/b/", "/a/b", "A/b", "a.B/c", "a_b/c", "a..b/c", ".a/b", "a./b", "./b", "-/b", "-a/b", "a-/b", "a/-", "a/_", "a/.", "a/-b", "a/b-", "a/_b", "a/b_", "a/.b", "a/b.", "-", "_", ".", "-a", "a-", "_a", "a_", ".a", "a.", "a b", " a", "a ", "a /b", "a/ b", "a/b ", " /b", "a/ ", "a:b", "a%2fb", "a\\b", "a/b\n", "a\n/b", "\n", "a/\x00", "\x00/a", "\xc3\xa9", "a/\xc3\xa9", "\xc3\xa9/a", "a/\xff", "\xff/a", "a\xff/b"}},
	{"Verb",
		[]string{"a", "z", "get", "list", "update", "impersonate", "deletecollection", "abcdefghijklmnopqrstuvwxyz"},
		[]string{"", "A", "Z", "Get", "gEt", "geT", "GET", "0", "get1", "1get", "g2t", "*", "get*", "-", "get-list", "-get", "get-", "get.", "get_", "get/", "/", ".", "get ", " get", " ", "g t", "get\n", "\nget", "get\x00", "\x00", "{", "`", "get{", "get`", "\xc3\xa9", "g\xc3\xa9t", "\xff", "get\xff", "\u017f", "\u212a", "\uff41"}},
	{"Path",
		[]string{"/", "//", "///", "/a", "/a/", "/a/b", "/A", "/0", "/.", "/..", "/../..", "/%", "/%2f", "/*", "/a*", "/a?b=c&d", "/#", "/~", "/!", "/-", "/healthz", "/apis/rbac/v1", "/a:b", "/\"'\\"},
		[]string{"", "a", "a/", "a/b", "*", ".", "%", "\\", "%2f", " ", " /", " /a", "/ ", "/a ", "/a b", "/\x00", "\x00/", "/\t", "/\n", "\n/", "/a\n", "/\x1f", "/a\x1fb", "/\x7f", "/a\x7f", "/a\x7fb", "/\x80", "/a\x80", "/\xff", "/a\xff/b", "/\xc3\xa9", "/a\xc3\xa9", "\uff0f", "\uff0fa"}},
}

// TestWritten is of P3.1 and P3.2: ordinary names, their edges, and wrong ones.
func TestWritten(t *testing.T) {
	for _, w := range written {
		c := byName(t, w.call)
		for _, s := range w.yes {
			c.says(t, s, true)
		}
		for _, s := range w.no {
			c.says(t, s, false)
		}
	}
}

// TestOneByte is of P3.1 and P3.2: each single byte, for each of the calls.
func TestOneByte(t *testing.T) {
	for name, may := range map[string]string{
		"Label":      smalls + numbers,
		"Subdomain":  smalls + numbers,
		"Segment":    smalls + greats + numbers + strings.NewReplacer("%", "", ".", "", "/", "").Replace(signs),
		"LabelValue": smalls + greats + numbers,
		"LabelKey":   smalls + greats + numbers,
		"Verb":       smalls,
		"Path":       "/",
	} {
		c := byName(t, name)
		for b := range 256 {
			s := string([]byte{byte(b)})
			c.says(t, s, strings.Contains(may, s))
		}
	}
}

// TestByteAtPlaces is of P3.1 and P3.2: each byte as the first, as one between, and as the last one, among bytes that may all be.
func TestByteAtPlaces(t *testing.T) {
	edge := smalls + greats + numbers
	for _, w := range []struct {
		call               string
		first, inner, last string
		ahead, behind      string
	}{
		{"Label", smalls + numbers, smalls + numbers + "-", smalls + numbers, "a", "b"},
		{"Subdomain", smalls + numbers, smalls + numbers + "-.", smalls + numbers, "a", "b"},
		{"Segment", edge + strings.NewReplacer("%", "", "/", "").Replace(signs), edge + strings.NewReplacer("%", "", "/", "").Replace(signs), edge + strings.NewReplacer("%", "", "/", "").Replace(signs), "a", "b"},
		{"LabelValue", edge, edge + "-_.", edge, "a", "b"},
		{"LabelKey", edge, edge + "-_./", edge, "a", "b"},
		{"LabelKey", smalls + numbers, smalls + numbers + "-.", edge, "a", "b/c"},
		{"LabelKey", edge, edge + "-_.", edge, "a/b", "c"},
		{"Verb", smalls, smalls, smalls, "a", "b"},
		{"Path", "/", edge + signs, edge + signs, "/", "b"},
	} {
		c := byName(t, w.call)
		for b := range 256 {
			s := string([]byte{byte(b)})
			c.says(t, s+w.behind, strings.Contains(w.first, s))
			c.says(t, w.ahead+s+w.behind, strings.Contains(w.inner, s))
			c.says(t, w.ahead+s, strings.Contains(w.last, s))
		}
	}
}

// TestSizes is of P3.1 and P3.2: the last size that may be, and the first one that may not.
func TestSizes(t *testing.T) {
	for _, w := range []struct {
		call  string
		size  int
		whole func(n int) string
		// others is how many bytes the text has beside those that are counted.
		others int
	}{
		{"Label", 63, func(n int) string { return times("a", n) }, 0},
		{"Label", 63, func(n int) string { return "a" + times("-", n-2) + "9" }, 0},
		{"Subdomain", 253, func(n int) string { return times("a.", 120) + times("b", n-240) }, 0},
		{"Subdomain", 63, func(n int) string { return times("a", n) }, 0},
		{"Subdomain", 63, func(n int) string { return times("a", n) + ".b" }, 2},
		{"Subdomain", 63, func(n int) string { return "b." + times("a", n) }, 2},
		{"Subdomain", 63, func(n int) string { return "b." + times("a", n) + ".c" }, 4},
		{"Segment", 253, func(n int) string { return times("a", n) }, 0},
		{"Segment", 253, func(n int) string { return times(".", n) }, 0},
		{"Segment", 253, func(n int) string { return times("~!", n)[:n] }, 0},
		{"LabelValue", 63, func(n int) string { return times("A", n) }, 0},
		{"LabelValue", 63, func(n int) string { return "A" + times("._-", n)[:n-2] + "z" }, 0},
		{"LabelKey", 63, func(n int) string { return times("A", n) }, 0},
		{"LabelKey", 63, func(n int) string { return "a/" + times("B", n) }, 2},
		{"LabelKey", 63, func(n int) string { return long253() + "/" + times("B", n) }, 254},
		{"LabelKey", 253, func(n int) string { return times("a.", 120) + times("b", n-240) + "/c" }, 2},
		{"LabelKey", 253, func(n int) string { return times("a.", 120) + times("b", n-240) + "/" + times("C", 63) }, 64},
		{"LabelKey", 63, func(n int) string { return times("a", n) + "/b" }, 2},
		{"LabelKey", 63, func(n int) string { return "a." + times("b", n) + "/c" }, 4},
		{"Verb", 32, func(n int) string { return times("z", n) }, 0},
		{"Path", 512, func(n int) string { return "/" + times("a", n-1) }, 0},
		{"Path", 512, func(n int) string { return times("/", n) }, 0},
	} {
		c := byName(t, w.call)
		for by := -1; by <= 3; by++ {
			s := w.whole(w.size + by)
			if len(s) != w.size+by+w.others {
				t.Fatalf("%s: a text of %d bytes, want %d", w.call, len(s), w.size+by+w.others)
			}
			c.says(t, s, by <= 0)
		}
	}
}

// TestAllSizes is of P3.1 and P3.2: one byte, as often as it goes, and once more.
func TestAllSizes(t *testing.T) {
	for name, most := range map[string]int{"Label": 63, "Subdomain": 63, "Segment": 253, "LabelValue": 63, "LabelKey": 63, "Verb": 32, "Path": 0} {
		c := byName(t, name)
		for n := 1; n < 600; n++ {
			c.says(t, times("a", n), n <= most)
		}
	}
	path := byName(t, "Path")
	for n := range 600 {
		path.says(t, "/"+times("a", n), n < 512)
	}
	subdomain := byName(t, "Subdomain")
	for n := range 600 {
		subdomain.says(t, times("a.", n)+"b", 2*n+1 <= 253)
	}
}

// TestSubdomainParts is of P3.1: a label too long, or wrong, at each place of a subdomain.
func TestSubdomainParts(t *testing.T) {
	subdomain := byName(t, "Subdomain")
	subdomain.says(t, long253(), true)
	subdomain.says(t, long253()+"d", false)
	for n := 1; n <= 4; n++ {
		for at := range n {
			for part, may := range map[string]int{"a": 1, "a-b": 1, "0": 1, times("a", 60): 1, times("a", 64): 0, "": 0, "-": 0, "-a": 0, "a-": 0, "A": 0, "a_b": 0, " ": 0, "a/b": 0, "\xc3\xa9": 0} {
				parts := strings.Split(times("b.", n-1)+"b", ".")
				parts[at] = part
				subdomain.says(t, strings.Join(parts, "."), may == 1)
			}
		}
	}
}

// TestOtherBytes is of P3.1 and P3.2: each byte at each place of names, in place of the one there, and between two.
func TestOtherBytes(t *testing.T) {
	for _, row := range []string{"", "a", "-", ".", "..", "...", "a-b", "a.b", "ab.c-d", "A_b.C", "a/b", "a.b/C_d", "/", "/a", "/a/b.c", "get", "x--y", "a..b", "..a"} {
		for at := 0; at <= len(row); at++ {
			for b := range 256 {
				one := string([]byte{byte(b)})
				agree(t, row[:at]+one+row[at:])
				if at < len(row) {
					agree(t, row[:at]+one+row[at+1:])
				}
			}
		}
	}
}

// TestOtherByteFarBehind is of P3.1 and P3.2: a byte that may not be, at each place of names that are as long as they may be.
func TestOtherByteFarBehind(t *testing.T) {
	for _, w := range []struct{ call, row, bytes string }{
		{"Label", times("a", 63), "A_ /\x00\x80"},
		{"Subdomain", long253(), "A_ /\x00\x80"},
		{"Segment", times("a", 253), "/% \x00\x1f\x7f\x80\xff"},
		{"LabelValue", times("A", 63), "/% \x00\x7f\x80\xff"},
		{"LabelKey", long253() + "/" + times("B", 63), "% :\x00\x7f\x80\xff"},
		{"Verb", times("z", 32), "A0-. \x00\x7f\x80"},
		{"Path", times("/", 512), " \x00\x1f\x7f\x80\xff"},
	} {
		c := byName(t, w.call)
		c.says(t, w.row, true)
		for at := range w.row {
			for i := range len(w.bytes) {
				c.says(t, w.row[:at]+w.bytes[i:i+1]+w.row[at+1:], false)
			}
		}
	}
}

// TestKeyParts is of P3.2: all that may and may not be ahead of the slash, with all that may and may not be behind it.
func TestKeyParts(t *testing.T) {
	key := byName(t, "LabelKey")
	owners := map[string]int{"a": 1, "a.b": 1, "a-b.c": 1, "0": 1, long253(): 1, times("a", 63): 1,
		long253() + "d": 0, times("a", 64): 0, "": 0, ".": 0, "A": 0, "a_b": 0, "a..b": 0, "a.": 0, ".a": 0, "-a": 0, "a/b": 0, "/": 0, " ": 0}
	keys := map[string]int{"b": 1, "B": 1, "b_c": 1, "b..c": 1, "9": 1, times("b", 63): 1,
		times("b", 64): 0, "": 0, "-": 0, "_": 0, ".": 0, "b_": 0, ".b": 0, "b/c": 0, "/b": 0, "b/": 0, "/": 0, " ": 0, "b\n": 0}
	for name, may := range keys {
		key.says(t, name, may == 1 || name == "b/c")
		for owner, mayOwn := range owners {
			key.says(t, owner+"/"+name, may*mayOwn == 1)
		}
	}
}

// TestShortTexts is of P3.1 and P3.2: all texts of up to two bytes, and longer ones of the bytes that count.
func TestShortTexts(t *testing.T) {
	agree(t, "")
	for a := range 256 {
		for b := range 256 {
			agree(t, string([]byte{byte(a), byte(b)}))
		}
	}
	few := []string{"a", "Z", "0", "-", ".", "_", "/", "%", " "}
	row := few
	for range 4 {
		var longer []string
		for _, s := range row {
			for _, b := range few {
				longer = append(longer, s+b)
			}
		}
		for _, s := range longer {
			agree(t, s)
		}
		row = longer
	}
}

// made is a text of some of these bytes, its size below n, by a fixed row of numbers.
func made(row *rand.Rand, bytes string, n int) string {
	var b strings.Builder
	for range row.Intn(n) {
		b.WriteByte(bytes[row.Intn(len(bytes))])
	}
	return b.String()
}

// TestSomeTexts is of P3.1 and P3.2: texts of all sizes, most of bytes that may be.
func TestSomeTexts(t *testing.T) {
	row := rand.New(rand.NewSource(3))
	for range 5000 {
		agree(t, made(row, smalls, 70))
		agree(t, made(row, smalls+numbers+"-", 70))
		agree(t, made(row, smalls+numbers+"--..", 30))
		agree(t, made(row, smalls+times(numbers, 4)+times(smalls, 8)+".", 260))
		agree(t, made(row, smalls+greats+numbers+"-_.", 70))
		agree(t, made(row, smalls+numbers+".", 20)+"/"+made(row, smalls+greats+"_", 66))
		agree(t, "/"+made(row, smalls+greats+signs, 600))
		agree(t, made(row, smalls+greats+signs+" \x7f\x80", 20))
	}
}

// follows holds what P3.3 says of a text; it tells which of its three sayings are of this one.
func follows(t *testing.T, s string) (first, second, third int) {
	t.Helper()
	if names.Label(s) {
		first = 1
		if !names.Subdomain(s) {
			t.Errorf("%q is a Label, and no Subdomain", s)
		}
	}
	if names.Subdomain(s) && len(s) <= 63 {
		second = 1
		if !names.LabelValue(s) {
			t.Errorf("%q is a Subdomain, and no LabelValue", s)
		}
	}
	if names.Segment(s) {
		third = 1
		if !names.Path("/" + s) {
			t.Errorf("%q is a Segment, and behind a / no Path", s)
		}
	}
	return first, second, third
}

// TestFollows is of P3.3: what is one is the other, too.
func TestFollows(t *testing.T) {
	texts := []string{times("a", 63), times("a", 31) + "." + times("b", 31), long253(), times("a", 253), times("~", 253), "...", times(".", 253)}
	for _, w := range written {
		texts = append(texts, append(w.yes, w.no...)...)
	}
	row := rand.New(rand.NewSource(4))
	for range 10000 {
		texts = append(texts, made(row, smalls+numbers+"-", 66), made(row, smalls+numbers+"-.", 10), made(row, times(smalls, 4)+".", 66), made(row, smalls+greats+signs, 40))
	}
	var told [3]int
	for _, s := range texts {
		a, b, c := follows(t, s)
		told[0], told[1], told[2] = told[0]+a, told[1]+b, told[2]+c
	}
	if min(told[0], told[1], told[2]) < 1000 {
		t.Errorf("only %d labels, short subdomains and segments: too few to tell", told)
	}
}

// TestVeryLong is of P1 and R5: texts far beyond what may be.
func TestVeryLong(t *testing.T) {
	for _, n := range []int{1 << 10, 1 << 16, 1 << 22} {
		for _, b := range []string{"a", "A", "0", "-", ".", "a.", "_", "/", "//a", "%", "\x00", "\x80", "\xff", " "} {
			long := times(b, n)
			for _, s := range []string{long, "a" + long + "a", "/" + long, "a/" + long, long + "/a"} {
				for _, c := range calls() {
					c.says(t, s, false)
				}
			}
		}
	}
}

// TestSame is of R4: the same calls have the same answers, whatever was asked between.
func TestSame(t *testing.T) {
	for range 3 {
		TestWritten(t)
		agree(t, times("a", 64))
	}
}

// FuzzNames is of P1 and P3.1 to P3.3: every call ends, and says what another reader says, whatever the text is.
func FuzzNames(f *testing.F) {
	for _, w := range written {
		for _, s := range append(w.yes, w.no...) {
			f.Add(s)
		}
	}
	f.Add(long253())
	f.Add(long253() + "/" + times("B", 63))
	f.Add("/" + times("a", 511))
	f.Fuzz(func(t *testing.T, s string) {
		agree(t, s)
		follows(t, s)
	})
}
