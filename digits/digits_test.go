package digits_test

import (
	"math"
	"math/big"
	"math/rand"
	"regexp"
	"strings"
	"testing"

	"vestibule/api"
	"vestibule/digits"
)

const (
	least    = math.MinInt64
	greatest = math.MaxInt64
)

// texts are numbers, and their texts as the document writes them.
var texts = []struct {
	n    int64
	text string
}{
	{0, "0"},
	{1, "1"},
	{-1, "-1"},
	{7, "7"},
	{-7, "-7"},
	{9, "9"},
	{-9, "-9"},
	{10, "10"},
	{-10, "-10"},
	{11, "11"},
	{99, "99"},
	{100, "100"},
	{-100, "-100"},
	{101, "101"},
	{-909, "-909"},
	{1234567890, "1234567890"},
	{-1234567890, "-1234567890"},
	{2147483647, "2147483647"},
	{-2147483648, "-2147483648"},
	{4294967296, "4294967296"},
	// Eighteen digits.
	{100000000000000000, "100000000000000000"},
	{999999999999999999, "999999999999999999"},
	{-100000000000000000, "-100000000000000000"},
	{-999999999999999999, "-999999999999999999"},
	// Nineteen.
	{1000000000000000000, "1000000000000000000"},
	{-1000000000000000000, "-1000000000000000000"},
	{9000000000000000000, "9000000000000000000"},
	{9223372036854775799, "9223372036854775799"},
	{9223372036854775800, "9223372036854775800"},
	{9223372036854775806, "9223372036854775806"},
	{9223372036854775807, "9223372036854775807"},
	{-9223372036854775806, "-9223372036854775806"},
	{-9223372036854775807, "-9223372036854775807"},
	{-9223372036854775808, "-9223372036854775808"},
}

// overs are texts that are no number's for their size alone. Some come to a small number, if what is over 64 bits is left out.
var overs = []string{
	"9223372036854775808", "9223372036854775809", "9223372036854775810", "9223372036854775817",
	"-9223372036854775809", "-9223372036854775810", "-9223372036854775817", "-9223372036854775818",
	"9300000000000000000", "-9300000000000000000", "9999999999999999999", "-9999999999999999999",
	"10000000000000000000", "-10000000000000000000",
	"18446744073709551608", "18446744073709551609", "18446744073709551610",
	"18446744073709551614", "18446744073709551615", "18446744073709551616", "18446744073709551617",
	"18446744073709551619", "18446744073709551620", "18446744073709551621", "18446744073709551626",
	"-18446744073709551614", "-18446744073709551615", "-18446744073709551616", "-18446744073709551617",
	"27670116110564327423", "27670116110564327424", "27670116110564327425", "36893488147419103232",
	"92233720368547758070", "92233720368547758080", "-92233720368547758080", "-92233720368547758090",
	"99999999999999999999", "-99999999999999999999",
	"100000000000000000000", "-100000000000000000000",
	"184467440737095516160", "184467440737095516161", "184467440737095516170",
	"340282366920938463463374607431768211455", "340282366920938463463374607431768211456", "-340282366920938463463374607431768211457",
	"1" + strings.Repeat("0", 63), "1" + strings.Repeat("0", 64), "-1" + strings.Repeat("0", 64), "1" + strings.Repeat("0", 64) + "7",
	strings.Repeat("9", 1000), "-" + strings.Repeat("9", 1000), strings.Repeat("1234567890", 100),
}

// noTexts are texts of no number, of whatever size.
var noTexts = []string{
	"", "-", "--", "+", "---", "-+", "+-",
	"-0", "00", "01", "-01", "-00", "000", "-000", "007", "-007", "09", "010", "0123456789",
	"+0", "+1", "+9223372036854775807", "+9223372036854775808", "--1", "-+1", "+-1", "1-", "1+", "1-1", "-1-", "5-3", "0-", "0-1", "-0-", "-1-1",
	" ", " 1", "1 ", "- 1", "-1 ", " -1", "1 2", "\t1", "1\t", "1\n", "\n1", "1\r\n", "\x001", "1\x00", "1\x002", "\x00", "0\x00", "\xa01", "1\xc2\xa0", "\u20091",
	"a", "-a", "a1", "1a", "1a2", "-1a", "/", ":", "1/", "1:", "/1", ":1", "1/2", "1:2", "0/", "0:", "-/", "-:", "-/1", "-1:",
	"0x10", "0x", "0b1", "0o7", "x10", "ff", "1f", "1e3", "1E3", "1_000", "1,000", "1'000", "_1", "1_", "1.0", "1.", ".1", ".", "0.0", "-.1", "-1.5", "0.", "NaN", "Inf", "-Inf", "nil", "zero",
	"\u0661", "\u0967", "\uff11", "1\uff11", "\u22121", "\u20131", "1\u00b2", "\u00bd", "\ufeff1", "\xff", "1\xff", "\xff1", "\xb1", "1\xb1", "\"1\"",
	// More digits than a number has, too.
	"09223372036854775807", "09223372036854775808", "-09223372036854775808", "-09223372036854775809", "099999999999999999999", "-099999999999999999999", "00000000000000000000", "000000000000000000001", "-00000000000000000000", "-000000000000000000001",
	"9223372036854775808x", "x9223372036854775808", "-9223372036854775809x", "--9223372036854775809", "-9223372036854775809-", "9223372036854775808 ", " 9223372036854775808", "9223372036854775808\n",
	"99999999999999999999x", "-99999999999999999999x", "x99999999999999999999", "+99999999999999999999", " 99999999999999999999", "99999999999999999999 ", "99999999999999999999-", "99999999999999999999.0", "9999999999 9999999999", "9999999999-9999999999", "99999999999999999999\x00", "1844674407370955161x6", "18446744073709551616:", "18446744073709551616/",
	strings.Repeat("0", 1000), strings.Repeat("-", 1000), "0" + strings.Repeat("9", 1000), "-0" + strings.Repeat("9", 1000), strings.Repeat("9", 1000) + "x", "x" + strings.Repeat("9", 1000), strings.Repeat("9", 500) + "x" + strings.Repeat("9", 500), strings.Repeat("0", 1000) + "1",
}

// digitTexts are the texts that are right but perhaps for their size.
var digitTexts = regexp.MustCompile(`^(0|-?[1-9][0-9]*)$`)

func parses(t *testing.T, s string, want int64, e api.Errno) {
	t.Helper()
	if n, got := digits.Parse(s); n != want || got != e {
		t.Errorf("Parse(%.60q): %d, %d, want %d, %d", s, n, got, want, e)
	}
}

// asBig tells what Parse should, by another reader of digits.
func asBig(s string) (int64, api.Errno) {
	if !digitTexts.MatchString(s) {
		return 0, api.ErrForm
	}
	n, _ := new(big.Int).SetString(s, 10)
	return fits(n)
}

// fits tells a number, or that it is none of 64 bits with a sign.
func fits(n *big.Int) (int64, api.Errno) {
	if !n.IsInt64() {
		return 0, api.ErrOver
	}
	return n.Int64(), api.OK
}

// TestTexts is of P2.1: numbers as digits, and read again.
func TestTexts(t *testing.T) {
	for _, c := range texts {
		if got := digits.Text(c.n); got != c.text {
			t.Errorf("Text(%d): %q, want %q", c.n, got, c.text)
		}
		parses(t, c.text, c.n, api.OK)
	}
}

// TestOver is of P2.1: texts of numbers that are too great, or too far below 0.
func TestOver(t *testing.T) {
	for _, s := range overs {
		parses(t, s, 0, api.ErrOver)
	}
}

// TestNoTexts is of P2.1: what is no number's text, be it too long or not.
func TestNoTexts(t *testing.T) {
	for _, s := range noTexts {
		parses(t, s, 0, api.ErrForm)
	}
}

// TestZerosAhead is of P2.1: a 0 ahead is never right, whatever the size.
func TestZerosAhead(t *testing.T) {
	for n := 1; n <= 40; n++ {
		zeros := strings.Repeat("0", n)
		for _, c := range texts {
			if c.n >= 0 {
				parses(t, zeros+c.text, 0, api.ErrForm)
				parses(t, "-"+zeros+c.text, 0, api.ErrForm)
			}
		}
		for _, s := range overs {
			s = strings.TrimPrefix(s, "-")
			parses(t, zeros+s, 0, api.ErrForm)
			parses(t, "-"+zeros+s, 0, api.ErrForm)
		}
	}
}

// TestOtherBytes is of P2.1: each byte at each place ahead of, among and behind digits, where there are few of them, and where there are too many.
func TestOtherBytes(t *testing.T) {
	for _, row := range []string{"", "0", "7", "-", "-7", "12", "999999999999999999", "1000000000000000000", "9223372036854775807", "-9223372036854775808", "9223372036854775808", "-9223372036854775809", "10000000000000000000", "18446744073709551616", "99999999999999999999", "-99999999999999999999", "1000000000000000000000000000000", "-1000000000000000000000000000000"} {
		for at := 0; at <= len(row); at++ {
			for b := range 256 {
				put := row[:at] + string([]byte{byte(b)}) + row[at:]
				n, e := asBig(put)
				parses(t, put, n, e)
				if at < len(row) {
					put = row[:at] + string([]byte{byte(b)}) + row[at+1:]
					n, e = asBig(put)
					parses(t, put, n, e)
				}
			}
		}
	}
}

// TestShortTexts is of P2.1 and P2.3: all texts of up to two bytes, and longer ones of the bytes that count.
func TestShortTexts(t *testing.T) {
	ask := func(s string) {
		t.Helper()
		n, e := asBig(s)
		parses(t, s, n, e)
		if got := digits.Text(n); e == api.OK && got != s {
			t.Errorf("Text(%d): %q, want %q", n, got, s)
		}
	}
	ask("")
	for a := range 256 {
		ask(string([]byte{byte(a)}))
		for b := range 256 {
			ask(string([]byte{byte(a), byte(b)}))
		}
	}
	row := []string{""}
	for range 5 {
		var longer []string
		for _, s := range row {
			for _, b := range "-019+ /:a" {
				longer = append(longer, s+string(b))
			}
		}
		for _, s := range longer {
			ask(s)
		}
		row = longer
	}
}

// TestLengths is of P2.1: texts of every length, at the least and the greatest digits of each.
func TestLengths(t *testing.T) {
	for n := 1; n <= 200; n++ {
		for _, first := range "123456789" {
			for _, rest := range "0123456789" {
				s := string(first) + strings.Repeat(string(rest), n-1)
				for _, s := range []string{s, "-" + s} {
					want, e := asBig(s)
					parses(t, s, want, e)
				}
			}
		}
	}
}

// TestSizes is of P2.1: the numbers about each power of 2, and about those of 10, also beyond 64 bits.
func TestSizes(t *testing.T) {
	for _, base := range []int64{2, 10} {
		power := big.NewInt(1)
		for range 80 {
			for by := int64(-20); by <= 20; by++ {
				n := new(big.Int).Add(power, big.NewInt(by))
				for _, n := range []*big.Int{n, new(big.Int).Neg(n)} {
					want, e := fits(n)
					parses(t, n.String(), want, e)
					if got := digits.Text(want); e == api.OK && got != n.String() {
						t.Errorf("Text(%d): %q, want %q", want, got, n)
					}
				}
			}
			power.Mul(power, big.NewInt(base))
		}
	}
}

// TestLongTexts is of R5 and P1: no text is too long to be answered, and the last byte counts.
func TestLongTexts(t *testing.T) {
	const long = 1 << 20
	nines, zeros := strings.Repeat("9", long), strings.Repeat("0", long)
	parses(t, nines, 0, api.ErrOver)
	parses(t, "-"+nines, 0, api.ErrOver)
	parses(t, "1"+zeros, 0, api.ErrOver)
	parses(t, nines+"x", 0, api.ErrForm)
	parses(t, nines+" ", 0, api.ErrForm)
	parses(t, "-"+nines+"-", 0, api.ErrForm)
	parses(t, "0"+nines, 0, api.ErrForm)
	parses(t, zeros, 0, api.ErrForm)
	parses(t, "-"+zeros+"1", 0, api.ErrForm)
	parses(t, strings.Repeat("-", long), 0, api.ErrForm)
}

// two is one of the calls of two numbers, by its name, and what it should tell of them, by another reckoner.
type two struct {
	name string
	got  func(a, b int64) (int64, api.Errno)
	want func(a, b *big.Int) (*big.Int, api.Errno)
}

// twos are all of them.
func twos() []two {
	plain := func(reckon func(z, a, b *big.Int) *big.Int) func(a, b *big.Int) (*big.Int, api.Errno) {
		return func(a, b *big.Int) (*big.Int, api.Errno) { return reckon(new(big.Int), a, b), api.OK }
	}
	divided := func(reckon func(z, a, b *big.Int) *big.Int) func(a, b *big.Int) (*big.Int, api.Errno) {
		return func(a, b *big.Int) (*big.Int, api.Errno) {
			if b.Sign() == 0 {
				return nil, api.ErrZero
			}
			return reckon(new(big.Int), a, b), api.OK
		}
	}
	return []two{
		{"Add", digits.Add, plain((*big.Int).Add)},
		{"Sub", digits.Sub, plain((*big.Int).Sub)},
		{"Mul", digits.Mul, plain((*big.Int).Mul)},
		{"Div", digits.Div, divided((*big.Int).Quo)},
		{"Mod", digits.Mod, divided((*big.Int).Rem)},
	}
}

// reckons holds a call of two numbers against the other reckoner.
func (c two) reckons(t *testing.T, a, b int64) {
	t.Helper()
	n, e := c.want(big.NewInt(a), big.NewInt(b))
	want := int64(0)
	if e == api.OK {
		want, e = fits(n)
	}
	if got, is := c.got(a, b); got != want || is != e {
		t.Errorf("%s(%d, %d): %d, %d, want %d, %d", c.name, a, b, got, is, want, e)
	}
}

func negates(t *testing.T, a int64) {
	t.Helper()
	want, e := fits(new(big.Int).Neg(big.NewInt(a)))
	if got, is := digits.Neg(a); got != want || is != e {
		t.Errorf("Neg(%d): %d, %d, want %d, %d", a, got, is, want, e)
	}
}

// TestReckoned is of P2.2: what is reckoned, written out.
func TestReckoned(t *testing.T) {
	calls := map[string]func(a, b int64) (int64, api.Errno){}
	for _, c := range twos() {
		calls[c.name] = c.got
	}
	for _, c := range []struct {
		name    string
		a, b, n int64
		e       api.Errno
	}{
		{"Add", 2, 3, 5, api.OK}, {"Add", -2, 3, 1, api.OK}, {"Add", 2, -3, -1, api.OK}, {"Add", 0, 0, 0, api.OK},
		{"Add", greatest, 0, greatest, api.OK}, {"Add", greatest, 1, 0, api.ErrOver}, {"Add", 1, greatest, 0, api.ErrOver}, {"Add", greatest - 1, 1, greatest, api.OK}, {"Add", greatest, greatest, 0, api.ErrOver},
		{"Add", least, 0, least, api.OK}, {"Add", least, -1, 0, api.ErrOver}, {"Add", -1, least, 0, api.ErrOver}, {"Add", least + 1, -1, least, api.OK}, {"Add", least, least, 0, api.ErrOver},
		{"Add", least, greatest, -1, api.OK}, {"Add", greatest, least, -1, api.OK}, {"Add", greatest, -greatest, 0, api.OK},
		{"Sub", 2, 3, -1, api.OK}, {"Sub", -2, 3, -5, api.OK}, {"Sub", 2, -3, 5, api.OK}, {"Sub", 0, 0, 0, api.OK},
		{"Sub", greatest, -1, 0, api.ErrOver}, {"Sub", greatest - 1, -1, greatest, api.OK}, {"Sub", greatest, greatest, 0, api.OK}, {"Sub", greatest, least, 0, api.ErrOver},
		{"Sub", least, 1, 0, api.ErrOver}, {"Sub", least + 1, 1, least, api.OK}, {"Sub", least, least, 0, api.OK}, {"Sub", least, greatest, 0, api.ErrOver},
		{"Sub", 0, least, 0, api.ErrOver}, {"Sub", -1, least, greatest, api.OK}, {"Sub", 0, greatest, -greatest, api.OK}, {"Sub", -1, greatest, least, api.OK}, {"Sub", -2, greatest, 0, api.ErrOver},
		{"Mul", 6, 7, 42, api.OK}, {"Mul", -6, 7, -42, api.OK}, {"Mul", 6, -7, -42, api.OK}, {"Mul", -6, -7, 42, api.OK}, {"Mul", 0, -7, 0, api.OK},
		{"Mul", least, 1, least, api.OK}, {"Mul", 1, least, least, api.OK}, {"Mul", least, -1, 0, api.ErrOver}, {"Mul", -1, least, 0, api.ErrOver}, {"Mul", least, 0, 0, api.OK}, {"Mul", 0, least, 0, api.OK}, {"Mul", least, least, 0, api.ErrOver}, {"Mul", least, 2, 0, api.ErrOver},
		{"Mul", greatest, -1, -greatest, api.OK}, {"Mul", greatest, greatest, 0, api.ErrOver}, {"Mul", greatest, least, 0, api.ErrOver}, {"Mul", greatest, 2, 0, api.ErrOver}, {"Mul", -2, greatest, 0, api.ErrOver},
		{"Mul", 1 << 32, 1 << 31, 0, api.ErrOver}, {"Mul", 1 << 32, -1 << 31, least, api.OK}, {"Mul", -1 << 32, -1 << 31, 0, api.ErrOver}, {"Mul", 1 << 32, 1 << 32, 0, api.ErrOver}, {"Mul", -1 << 62, 2, least, api.OK}, {"Mul", 1 << 62, 2, 0, api.ErrOver}, {"Mul", 1 << 62, 4, 0, api.ErrOver},
		{"Mul", 3037000499, 3037000499, 9223372030926249001, api.OK}, {"Mul", 3037000500, 3037000500, 0, api.ErrOver}, {"Mul", 188232082384791343, 49, greatest, api.OK}, {"Mul", -188232082384791343, 49, -greatest, api.OK},
		{"Div", 7, 2, 3, api.OK}, {"Div", -7, 2, -3, api.OK}, {"Div", 7, -2, -3, api.OK}, {"Div", -7, -2, 3, api.OK}, {"Div", 1, 2, 0, api.OK}, {"Div", -1, 2, 0, api.OK}, {"Div", 8, -2, -4, api.OK}, {"Div", 0, -5, 0, api.OK},
		{"Div", 7, 0, 0, api.ErrZero}, {"Div", 0, 0, 0, api.ErrZero}, {"Div", least, 0, 0, api.ErrZero}, {"Div", greatest, 0, 0, api.ErrZero},
		{"Div", least, -1, 0, api.ErrOver}, {"Div", least, 1, least, api.OK}, {"Div", least + 1, -1, greatest, api.OK}, {"Div", greatest, -1, -greatest, api.OK}, {"Div", least, least, 1, api.OK}, {"Div", least, -2, 1 << 62, api.OK}, {"Div", least, greatest, -1, api.OK}, {"Div", greatest, least, 0, api.OK}, {"Div", -1, least, 0, api.OK},
		{"Mod", 7, 2, 1, api.OK}, {"Mod", -7, 2, -1, api.OK}, {"Mod", 7, -2, 1, api.OK}, {"Mod", -7, -2, -1, api.OK}, {"Mod", 1, 2, 1, api.OK}, {"Mod", -1, 2, -1, api.OK}, {"Mod", 8, -2, 0, api.OK}, {"Mod", 0, -5, 0, api.OK},
		{"Mod", 7, 0, 0, api.ErrZero}, {"Mod", 0, 0, 0, api.ErrZero}, {"Mod", least, 0, 0, api.ErrZero}, {"Mod", -1, 0, 0, api.ErrZero},
		{"Mod", least, -1, 0, api.OK}, {"Mod", 7, -1, 0, api.OK}, {"Mod", least, 1, 0, api.OK}, {"Mod", least, least, 0, api.OK}, {"Mod", least, greatest, -1, api.OK}, {"Mod", greatest, least, greatest, api.OK}, {"Mod", least, 10, -8, api.OK}, {"Mod", greatest, -10, 7, api.OK},
	} {
		if n, e := calls[c.name](c.a, c.b); n != c.n || e != c.e {
			t.Errorf("%s(%d, %d): %d, %d, want %d, %d", c.name, c.a, c.b, n, e, c.n, c.e)
		}
	}
}

// TestNeg is of P2.2: 0 less a number.
func TestNeg(t *testing.T) {
	for _, c := range []struct {
		a, n int64
		e    api.Errno
	}{
		{0, 0, api.OK}, {1, -1, api.OK}, {-1, 1, api.OK}, {42, -42, api.OK}, {-42, 42, api.OK},
		{greatest, -greatest, api.OK}, {-greatest, greatest, api.OK}, {greatest - 1, least + 2, api.OK}, {least + 2, greatest - 1, api.OK},
		{least, 0, api.ErrOver},
	} {
		if n, e := digits.Neg(c.a); n != c.n || e != c.e {
			t.Errorf("Neg(%d): %d, %d, want %d, %d", c.a, n, e, c.n, c.e)
		}
	}
}

// TestSmall is of P2.2: all pairs of small numbers, and of small ones with those at both ends.
func TestSmall(t *testing.T) {
	for a := int64(-20); a <= 20; a++ {
		negates(t, a)
		for b := int64(-20); b <= 20; b++ {
			for _, c := range twos() {
				c.reckons(t, a, b)
			}
			for _, end := range []int64{least, greatest} {
				negates(t, end+a)
				for _, c := range twos() {
					c.reckons(t, end+a, b)
					c.reckons(t, b, end+a)
				}
			}
		}
	}
}

// powers are the numbers about each power of 2 that is one, below 0 and above.
func powers() []int64 {
	var l []int64
	for shift := range 64 {
		for by := int64(-1); by <= 1; by++ {
			n := int64(1)<<shift + by
			l = append(l, n, -n)
		}
	}
	return l
}

// TestPowers is of P2.2: all pairs of numbers about the powers of 2.
func TestPowers(t *testing.T) {
	l := powers()
	for _, a := range l {
		negates(t, a)
		for _, b := range l {
			for _, c := range twos() {
				c.reckons(t, a, b)
			}
		}
	}
}

// TestEnds is of P2.2: for each number the last one that is not over with it, and those beside that.
func TestEnds(t *testing.T) {
	for _, a := range powers() {
		if a == 0 {
			continue
		}
		for _, end := range []int64{least, greatest} {
			for by := int64(-2); by <= 2; by++ {
				for _, c := range twos() {
					c.reckons(t, a, end-a+by)
					c.reckons(t, a, end+a+by)
					c.reckons(t, a, end/a+by)
					c.reckons(t, end/a+by, a)
				}
			}
		}
	}
}

// someNumbers are n numbers of all sizes, by a fixed row.
func someNumbers(n int) []int64 {
	row := rand.New(rand.NewSource(2))
	l := make([]int64, n)
	for i := range l {
		l[i] = int64(row.Uint64()) >> row.Intn(64)
	}
	return l
}

// TestSomeNumbers is of P2.2: numbers of all sizes.
func TestSomeNumbers(t *testing.T) {
	l := someNumbers(20000)
	for i, a := range l {
		negates(t, a)
		for _, c := range twos() {
			c.reckons(t, a, l[len(l)-1-i])
		}
	}
}

// TestReadAgain is of P2.3: what was written is parsed, and no other text is of the same number.
func TestReadAgain(t *testing.T) {
	for _, n := range append(someNumbers(20000), powers()...) {
		s := digits.Text(n)
		parses(t, s, n, api.OK)
		parses(t, "0"+s, 0, api.ErrForm)
		parses(t, "+"+s, 0, api.ErrForm)
		parses(t, s+" ", 0, api.ErrForm)
		parses(t, " "+s, 0, api.ErrForm)
		if n >= 0 {
			parses(t, "-0"+s, 0, api.ErrForm)
		}
	}
}

// TestOneText is of P2.3: no two numbers have one text.
func TestOneText(t *testing.T) {
	seen := map[string]int64{}
	for _, n := range append(someNumbers(20000), powers()...) {
		s := digits.Text(n)
		if m, there := seen[s]; there && m != n {
			t.Fatalf("Text(%d) and Text(%d): %q", m, n, s)
		}
		seen[s] = n
	}
}

// TestBack is of P2.3: what was added is subtracted again, and a number is the other times Div, and Mod.
func TestBack(t *testing.T) {
	l := append(someNumbers(2000), powers()...)
	for i, a := range l {
		for _, b := range []int64{l[len(l)-1-i], l[(i*7+1)%len(l)], -1, 0, 1, 10, least, greatest} {
			if sum, e := digits.Add(a, b); e == api.OK {
				if n, e := digits.Sub(sum, b); n != a || e != api.OK {
					t.Errorf("Sub(Add(%d, %d), %[2]d): %d, %d", a, b, n, e)
				}
			}
			if n, e := digits.Sub(a, b); e == api.OK {
				if m, e := digits.Add(n, b); m != a || e != api.OK {
					t.Errorf("Add(Sub(%d, %d), %[2]d): %d, %d", a, b, m, e)
				}
			}
			dividesBack(t, a, b)
		}
	}
}

func dividesBack(t *testing.T, a, b int64) {
	t.Helper()
	n, e := digits.Div(a, b)
	if e != api.OK {
		return
	}
	rest, e := digits.Mod(a, b)
	if e != api.OK {
		t.Errorf("Mod(%d, %d): error %d, where Div is %d", a, b, e, n)
	}
	product, e := digits.Mul(b, n)
	if e != api.OK {
		t.Errorf("Mul(%d, Div(%d, %[1]d)): error %d", b, a, e)
	}
	if sum, e := digits.Add(product, rest); sum != a || e != api.OK {
		t.Errorf("%d times Div and Mod of %d: %d, %d", b, a, sum, e)
	}
}

// TestSame is of R4: the same calls have the same answers, whatever was asked between.
func TestSame(t *testing.T) {
	for range 3 {
		for _, c := range texts {
			parses(t, c.text, c.n, api.OK)
			digits.Parse("x")
			digits.Parse("99999999999999999999")
			if got := digits.Text(c.n); got != c.text {
				t.Errorf("Text(%d): %q, want %q", c.n, got, c.text)
			}
		}
	}
}

// FuzzParse is of P1 and P2.1: every call ends, and says what another reader says, whatever the text is.
func FuzzParse(f *testing.F) {
	for _, s := range append(noTexts[:len(noTexts):len(noTexts)], overs...) {
		f.Add(s)
	}
	for _, c := range texts {
		f.Add(c.text)
	}
	f.Fuzz(func(t *testing.T, s string) {
		n, e := asBig(s)
		parses(t, s, n, e)
	})
}

// FuzzReckoned is of P1 and P2.2: every call ends, and says what another reckoner says, whatever the numbers are.
func FuzzReckoned(f *testing.F) {
	f.Add(int64(least), int64(-1))
	f.Add(int64(greatest), int64(0))
	f.Fuzz(func(t *testing.T, a, b int64) {
		negates(t, a)
		for _, c := range twos() {
			c.reckons(t, a, b)
		}
	})
}
