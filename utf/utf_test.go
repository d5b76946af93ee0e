package utf_test

import (
	"math"
	"math/rand"
	"slices"
	"strings"
	"testing"
	"unicode/utf8"

	"vestibule/utf"
)

// edges are points at the edges of their lengths, each with its bytes as the document writes them.
var edges = []struct {
	point int
	bytes string
}{
	{0x0, "\x00"},
	{'a', "a"},
	{0x7f, "\x7f"},
	{0x80, "\xc2\x80"},
	{233, "\xc3\xa9"},
	{0x7ff, "\xdf\xbf"},
	{0x800, "\xe0\xa0\x80"},
	{0x20ac, "\xe2\x82\xac"},
	{0xd7ff, "\xed\x9f\xbf"},
	{0xe000, "\xee\x80\x80"},
	{0xfeff, "\xef\xbb\xbf"},
	{0xfffd, "\xef\xbf\xbd"},
	{0xfffe, "\xef\xbf\xbe"},
	{0xffff, "\xef\xbf\xbf"},
	{0x10000, "\xf0\x90\x80\x80"},
	{0x1f600, "\xf0\x9f\x98\x80"},
	{0xfffff, "\xf3\xbf\xbf\xbf"},
	{0x100000, "\xf4\x80\x80\x80"},
	{0x10ffff, "\xf4\x8f\xbf\xbf"},
}

// noPoints are numbers that are no code points.
var noPoints = []int{
	-1, -2, -0x41, -0x80, -0x10ffff, math.MinInt32, math.MinInt,
	0xd800, 0xd801, 0xdabc, 0xdbff, 0xdc00, 0xdffe, 0xdfff,
	0x110000, 0x110001, 0x1fffff, 0x200000, 0x7fffffff, math.MaxInt,
}

// noBytes are texts at whose beginning no point begins.
var noBytes = []string{
	// Bytes that begin none.
	"\x80", "\xbf", "\x80\x80", "\xbfa", "\xf8\x88\x80\x80\x80", "\xfc\x84\x80\x80\x80\x80", "\xfe", "\xff", "\xff\xff\xff\xff",
	// Too long for their point.
	"\xc0\x80", "\xc0\xaf", "\xc1\x81", "\xc1\xbf",
	"\xe0\x80\x80", "\xe0\x81\xbf", "\xe0\x82\x80", "\xe0\x9f\xbf",
	"\xf0\x80\x80\x80", "\xf0\x80\x81\xbf", "\xf0\x80\xa0\x80", "\xf0\x8f\xbf\xbf",
	// Surrogates, a pair of them too.
	"\xed\xa0\x80", "\xed\xaf\xbf", "\xed\xb0\x80", "\xed\xbf\xbf", "\xed\xa0\xbd\xed\xb8\x80",
	// Beyond the last point.
	"\xf4\x90\x80\x80", "\xf4\xbf\xbf\xbf", "\xf5\x80\x80\x80", "\xf7\xbf\xbf\xbf",
	// Cut within a point.
	"\xc3", "\xdf", "\xe2", "\xe2\x82", "\xef\xbf", "\xf0", "\xf0\x9f", "\xf0\x9f\x98", "\xf4\x8f\xbf",
	// Something else stands where a byte of the point should.
	"\xc3a", "\xc3\xc3", "\xc3\x7f", "\xc3\xc0", "\xc3\x00", "\xc3\xff",
	"\xe2a\xac", "\xe2\x82a", "\xe2\x82\xc0", "\xe2\x82\x7f", "\xe2\x82\xe2", "\xe2\x02\xac",
	"\xf0a\x98\x80", "\xf0\x9fa\x80", "\xf0\x9f\x98a", "\xf0\x9f\x98\xc0", "\xf0\x9f\xd8\x80", "\xf0\xdf\x98\x80",
}

func pointsAt(t *testing.T, s string, at, point, n int) {
	t.Helper()
	if p, m := utf.Next(s, at); p != point || m != n {
		t.Errorf("Next(%x, %d): %x, %d, want %x, %d", s, at, p, m, point, n)
	}
}

func encodes(t *testing.T, point int, bytes string, is bool) {
	t.Helper()
	if s, ok := utf.Encode(point); s != bytes || ok != is {
		t.Errorf("Encode(%x): %x, %v, want %x, %v", point, s, ok, bytes, is)
	}
}

// says holds all that is told of a text as a whole against its points, or the first place at which none begins.
func says(t *testing.T, s string, points []int, bad int) {
	t.Helper()
	valid, count := bad < 0, len(points)
	if !valid {
		points, count = nil, -1
	}
	if got := utf.Valid(s); got != valid {
		t.Errorf("Valid(%x): %v, want %v", s, got, valid)
	}
	if got := utf.Bad(s); got != bad {
		t.Errorf("Bad(%x): %d, want %d", s, got, bad)
	}
	if got := utf.Count(s); got != count {
		t.Errorf("Count(%x): %d, want %d", s, got, count)
	}
	if got, ok := utf.Points(s); !slices.Equal(got, points) || ok != valid {
		t.Errorf("Points(%x): %x, %v, want %x, %v", s, got, ok, points, valid)
	}
}

func cuts(t *testing.T, s string, n int, want string, is bool) {
	t.Helper()
	if got, ok := utf.Cut(s, n); got != want || ok != is {
		t.Errorf("Cut(%x, %d): %x, %v, want %x, %v", s, n, got, ok, want, is)
	}
}

// asLibrary tells a text's points, and the first place at which none begins, by another reader of UTF-8.
func asLibrary(s string) (points []int, bad int) {
	for at := 0; at < len(s); {
		r, n := utf8.DecodeRuneInString(s[at:])
		if r == utf8.RuneError && n < 2 {
			return nil, at
		}
		points = append(points, int(r))
		at += n
	}
	return points, -1
}

// TestEdges is of P1.1: points at the edges, read and encoded.
func TestEdges(t *testing.T) {
	for _, e := range edges {
		n := len(e.bytes)
		encodes(t, e.point, e.bytes, true)
		pointsAt(t, e.bytes, 0, e.point, n)
		pointsAt(t, "a"+e.bytes+"\xff", 1, e.point, n)
		pointsAt(t, "\xff"+e.bytes+"\x80", 1, e.point, n)
		pointsAt(t, "\xe2\x82"+e.bytes, 2, e.point, n)
		for at := 1; at < n; at++ {
			pointsAt(t, e.bytes, at, 0, 0)
			pointsAt(t, e.bytes[:at], 0, 0, 0)
		}
		says(t, e.bytes, []int{e.point}, -1)
	}
}

// TestNoPoints is of P1.1: numbers that are no points.
func TestNoPoints(t *testing.T) {
	for _, p := range noPoints {
		encodes(t, p, "", false)
	}
	for p := 0xd800; p <= 0xdfff; p++ {
		encodes(t, p, "", false)
	}
}

// TestNoBytes is of P1.1 and P1.2: bytes that are of no point, alone and among others.
func TestNoBytes(t *testing.T) {
	for _, s := range noBytes {
		pointsAt(t, s, 0, 0, 0)
		pointsAt(t, "a"+s, 1, 0, 0)
		pointsAt(t, "\xc3\xa9"+s, 2, 0, 0)
		says(t, s, nil, 0)
		says(t, "a"+s, nil, 1)
		says(t, "ab\xc3\xa9"+s+"\xff", nil, 4)
		cuts(t, s, 1, "", false)
		cuts(t, "ab"+s, 2, "", false)
	}
}

// TestPlaces is of P1.1: places that are none, or lie within a point.
func TestPlaces(t *testing.T) {
	s := "a\xc3\xa9\xe2\x82\xac\xf0\x9f\x98\x80"
	begins := map[int][2]int{0: {'a', 1}, 1: {0xe9, 2}, 3: {0x20ac, 3}, 6: {0x1f600, 4}}
	for at := -3; at < len(s)+3; at++ {
		pointsAt(t, s, at, begins[at][0], begins[at][1])
	}
	for _, at := range []int{math.MinInt, math.MinInt32, -1, len(s), len(s) + 1, math.MaxInt32, math.MaxInt - 1, math.MaxInt} {
		pointsAt(t, s, at, 0, 0)
		pointsAt(t, "", at, 0, 0)
	}
	pointsAt(t, "", 0, 0, 0)
	pointsAt(t, "\x00", 0, 0, 1)
	pointsAt(t, "\x00", 1, 0, 0)
}

// TestTexts is of P1.1 and P1.2: ordinary texts, and some that are not valid.
func TestTexts(t *testing.T) {
	for _, c := range []struct {
		text   string
		points []int
		bad    int
	}{
		{"", nil, -1},
		{"abc", []int{'a', 'b', 'c'}, -1},
		{"\x00\x00", []int{0, 0}, -1},
		{"a\xc3\xa9", []int{97, 233}, -1},
		{"\xc3\xa9a\xe2\x82\xac\xf0\x9f\x98\x80b", []int{233, 'a', 0x20ac, 0x1f600, 'b'}, -1},
		{"\xef\xbf\xbd", []int{0xfffd}, -1},
		{"\xef\xbb\xbfa", []int{0xfeff, 'a'}, -1},
		{"ab\xed\xa0\x80", nil, 2},
		{"\xc3", nil, 0},
		{"ab\xc3", nil, 2},
		{"\xc3\xa9\xa9", nil, 2},
		{"\xe2\x82\xac\xe2\x82", nil, 3},
		{"\xf0\x9f\x98\x80\x80", nil, 4},
		{"a\xffb\xff", nil, 1},
		{"\xc3\xa9\xc0\x80", nil, 2},
	} {
		says(t, c.text, c.points, c.bad)
	}
}

// TestCut is of P1.2: the first points of texts.
func TestCut(t *testing.T) {
	s := "a\xc3\xa9\xe2\x82\xac\xf0\x9f\x98\x80b"
	ends := []int{0, 1, 3, 6, 10, 11}
	for n, end := range ends {
		cuts(t, s, n, s[:end], true)
	}
	for _, n := range []int{len(ends), len(ends) + 1, len(s), math.MaxInt32, math.MaxInt} {
		cuts(t, s, n, s, true)
	}
	for _, n := range []int{-1, -2, math.MinInt32, math.MinInt} {
		cuts(t, s, n, "", true)
		cuts(t, "", n, "", true)
		cuts(t, s+"\xff", n, "", false)
	}
	cuts(t, "", 0, "", true)
	cuts(t, "", 1, "", true)
	cuts(t, "\x00\x00", 1, "\x00", true)
	// The whole text counts, also behind the points that are asked for.
	for n := range 4 {
		cuts(t, "a\xff", n, "", false)
		cuts(t, "ab\xc3", n, "", false)
		cuts(t, "\xff", n, "", false)
	}
}

// TestAllPoints is of P1.1 and P1.3: each number from below 0 to beyond the last point.
func TestAllPoints(t *testing.T) {
	for p := -0x100; p <= 0x110100; p++ {
		want, is := "", p >= 0 && p <= 0x10ffff && (p < 0xd800 || p > 0xdfff)
		if is {
			want = string(rune(p))
		}
		s, ok := utf.Encode(p)
		if s != want || ok != is {
			t.Fatalf("Encode(%x): %x, %v, want %x, %v", p, s, ok, want, is)
		}
		if q, n := utf.Next(s+"\x80", 0); is && (q != p || n != len(s)) {
			t.Fatalf("Next of Encode(%x): %x, %d, want %x, %d", p, q, n, p, len(s))
		}
	}
}

// TestAllShortTexts is of P1.1 and P1.3: what is read is what another reader reads, and is encoded again as just these bytes.
func TestAllShortTexts(t *testing.T) {
	ask := func(s string) {
		point, n := 0, 0
		if r, m := utf8.DecodeRuneInString(s); r != utf8.RuneError || m > 1 {
			point, n = int(r), m
		}
		p, m := utf.Next(s, 0)
		if p != point || m != n {
			t.Fatalf("Next(%x, 0): %x, %d, want %x, %d", s, p, m, point, n)
		}
		if e, ok := utf.Encode(p); m > 0 && (!ok || e != s[:m]) {
			t.Fatalf("Encode of Next(%x, 0): %x, %v", s, e, ok)
		}
	}
	for a := range 256 {
		ask(string([]byte{byte(a)}))
		for b := range 256 {
			ask(string([]byte{byte(a), byte(b)}))
		}
	}
	few := []byte{0x00, 0x7f, 0x80, 0x8f, 0x90, 0x9f, 0xa0, 0xbf, 0xc0, 0xff}
	for a := 0xc0; a < 256; a++ {
		for b := range 256 {
			for _, c := range few {
				ask(string([]byte{byte(a), byte(b), c}))
				for _, d := range few {
					ask(string([]byte{byte(a), byte(b), c, d}))
				}
			}
		}
	}
}

// TestTextsAreTheirPoints is of P1.3 (and of P1.2): texts made of pieces by a fixed row of numbers.
func TestTextsAreTheirPoints(t *testing.T) {
	row := rand.New(rand.NewSource(1))
	for range 4000 {
		var b strings.Builder
		for range row.Intn(8) {
			if row.Intn(12) == 0 {
				b.WriteString(noBytes[row.Intn(len(noBytes))])
				continue
			}
			b.WriteString(edges[row.Intn(len(edges))].bytes)
		}
		s := b.String()
		want, bad := asLibrary(s)
		says(t, s, want, bad)
		if bad >= 0 {
			cuts(t, s, row.Intn(9), "", false)
			continue
		}
		together := ""
		for i, p := range want {
			cuts(t, s, i, together, true)
			e, _ := utf.Encode(p)
			together += e
		}
		if together != s {
			t.Errorf("points of %x encoded: %x", s, together)
		}
		cuts(t, s, len(want), s, true)
		cuts(t, s, len(want)+1, s, true)
	}
}

// TestSamePoints is of P1.3: no two numbers have the same bytes, so no text is of other points than its own.
func TestSamePoints(t *testing.T) {
	seen := map[string]int{}
	for p := range 0x110000 {
		s, ok := utf.Encode(p)
		if !ok {
			continue
		}
		if q, there := seen[s]; there {
			t.Fatalf("Encode(%x) and Encode(%x): %x", q, p, s)
		}
		seen[s] = p
	}
	if len(seen) != 0x110000-0x800 {
		t.Errorf("%d points, want %d", len(seen), 0x110000-0x800)
	}
}

// TestLongTexts is of R5 and P1: no text is too long to be answered.
func TestLongTexts(t *testing.T) {
	const times = 1 << 16
	s := strings.Repeat("a\xc3\xa9\xe2\x82\xac\xf0\x9f\x98\x80", times)
	if n := utf.Count(s); n != 4*times {
		t.Errorf("Count: %d, want %d", n, 4*times)
	}
	if l, ok := utf.Points(s); len(l) != 4*times || !ok {
		t.Errorf("Points: %d, %v, want %d, true", len(l), ok, 4*times)
	}
	if at := utf.Bad(s + "\xe2\x82"); at != len(s) {
		t.Errorf("Bad: %d, want %d", at, len(s))
	}
	if c, ok := utf.Cut(s, 2*times); c != s[:5*times] || !ok {
		t.Errorf("Cut: %d bytes, %v, want %d, true", len(c), ok, 5*times)
	}
}

// TestPointsAreNew is of R3: a list that was told is its asker's own.
func TestPointsAreNew(t *testing.T) {
	a, _ := utf.Points("a\xc3\xa9")
	a[0] = 1
	if b, _ := utf.Points("a\xc3\xa9"); !slices.Equal(b, []int{97, 233}) {
		t.Errorf("Points: %v, want [97 233]", b)
	}
}

// FuzzTexts is of P1: every call ends, and says what another reader says, whatever the text is.
func FuzzTexts(f *testing.F) {
	for _, s := range noBytes {
		f.Add("\xc3\xa9"+s, 1)
	}
	f.Add("", 0)
	f.Fuzz(func(t *testing.T, s string, n int) {
		points, bad := asLibrary(s)
		says(t, s, points, bad)
		utf.Next(s, n)
		utf.Encode(n)
		utf.Cut(s, n)
	})
}
