package jsonval_test

import (
	"encoding/json"
	"fmt"
	"math"
	"math/rand"
	"regexp"
	"slices"
	"strconv"
	"strings"
	"testing"
	"unicode/utf16"
	"unicode/utf8"

	"vestibule/api"
	"vestibule/jsonval"
	"vestibule/tree"
)

// Values, written short.

func null() api.Value                         { return api.Value{} }
func boolean(n int64) api.Value               { return api.Value{Kind: api.KindBool, Int: n} }
func number(n int64) api.Value                { return api.Value{Kind: api.KindInt, Int: n} }
func text(s string) api.Value                 { return api.Value{Kind: api.KindText, Text: s} }
func list(l ...api.Value) api.Value           { return api.Value{Kind: api.KindList, List: l} }
func fields(l ...api.Field) api.Value         { return api.Value{Kind: api.KindMap, Fields: l} }
func field(key string, v api.Value) api.Field { return api.Field{Key: key, Value: v} }

// keyed is a map with numbers under these keys: 1, 2, and so on.
func keyed(keys ...string) api.Value {
	v := fields()
	for i, key := range keys {
		v.Fields = append(v.Fields, field(key, number(int64(i+1))))
	}
	return v
}

// told is a value as a text, its fields as they stand; a list that is nil is as one that is empty.
func told(v api.Value) string {
	var b strings.Builder
	b.WriteString(strconv.Itoa(v.Kind) + " " + strconv.FormatInt(v.Int, 10) + " " + strconv.Quote(v.Text))
	for _, x := range v.List {
		b.WriteString(" (" + told(x) + ")")
	}
	for _, f := range v.Fields {
		b.WriteString(" " + strconv.Quote(f.Key) + ":(" + told(f.Value) + ")")
	}
	return b.String()
}

// short cuts what a failed test tells.
func short(s string) string {
	if len(s) > 200 {
		return s[:200] + ".."
	}
	return s
}

func parses(t *testing.T, s string, want api.Value) {
	t.Helper()
	if v, e := jsonval.Parse(s); e != api.OK || told(v) != told(want) {
		t.Errorf("Parse(%s): %s, %d, want %s, 0", short(strconv.Quote(s)), short(told(v)), int(e), short(told(want)))
	}
}

// fails holds Parse against an error: beside it nothing else is told.
func fails(t *testing.T, s string, want api.Errno) {
	t.Helper()
	if v, e := jsonval.Parse(s); e != want || told(v) != told(null()) {
		t.Errorf("Parse(%s): %s, %d, want nothing, %d", short(strconv.Quote(s)), short(told(v)), int(e), int(want))
	}
}

func unquotes(t *testing.T, s, want string, n int, is bool) {
	t.Helper()
	if said, m, ok := jsonval.Unquote(s); said != want || m != n || ok != is {
		t.Errorf("Unquote(%s): %s, %d, %v, want %s, %d, %v", short(strconv.Quote(s)), short(strconv.Quote(said)), m, ok, short(strconv.Quote(want)), n, is)
	}
}

func writes(t *testing.T, v api.Value, want string) {
	t.Helper()
	if s := jsonval.Text(v); s != want {
		t.Errorf("Text(%s): %s, want %s", short(told(v)), short(strconv.Quote(s)), short(strconv.Quote(want)))
	}
}

func quotes(t *testing.T, s, want string) {
	t.Helper()
	if got := jsonval.Quote(s); got != want {
		t.Errorf("Quote(%s): %s, want %s", short(strconv.Quote(s)), short(strconv.Quote(got)), short(strconv.Quote(want)))
	}
}

// says holds a string of JSON against what it says: alone, in a list, as a key, and with more behind it.
func says(t *testing.T, s, said string) {
	t.Helper()
	parses(t, s, text(said))
	parses(t, "["+s+","+s+"]", list(text(said), text(said)))
	parses(t, "{"+s+":"+s+"}", fields(field(said, text(said))))
	for _, more := range []string{"", " ", "x", `"`, `\`, s, "\x00", "\xff", "]"} {
		unquotes(t, s+more, said, len(s), true)
	}
}

// saysNothing holds a text that begins as a string of JSON does, but is none, against the errors.
func saysNothing(t *testing.T, s string) {
	t.Helper()
	for _, whole := range []string{s, "[" + s + "]", "[1," + s + "]", "{" + s + ":1}", `{"k":` + s + "}"} {
		fails(t, whole, api.ErrForm)
	}
	unquotes(t, s, "", 0, false)
}

// TestExamples is of P5.1 and P5.2: the document's own.
func TestExamples(t *testing.T) {
	v, e := jsonval.Parse(` {"b":1, "a":[true]} `)
	if e != api.OK {
		t.Errorf("error %d", int(e))
	}
	writes(t, v, `{"a":[true],"b":1}`)
	fails(t, `1.5`, api.ErrForm)
	fails(t, `{"a":1,"a":2}`, api.ErrForm)
}

// ordinary are texts, and what they say.
var ordinary = []struct {
	s string
	v api.Value
}{
	{"null", null()},
	{"true", boolean(1)},
	{"false", boolean(0)},
	{"7", number(7)},
	{`"a b"`, text("a b")},
	{`""`, text("")},
	{"[]", list()},
	{"{}", fields()},
	{"[null]", list(null())},
	{"[1,2,3]", list(number(1), number(2), number(3))},
	{"[[],[[]],{}]", list(list(), list(list()), fields())},
	{`[true,false,null,0,"",[],{}]`, list(boolean(1), boolean(0), null(), number(0), text(""), list(), fields())},
	{`{"a":1}`, keyed("a")},
	{`{"":null}`, fields(field("", null()))},
	{`{"a":1,"b":2}`, keyed("a", "b")},
	{`{"a":{"a":{"a":1}}}`, fields(field("a", fields(field("a", keyed("a")))))},
	{`{"a":[{"b":[]},"x"],"c":{}}`, fields(field("a", list(fields(field("b", list())), text("x"))), field("c", fields()))},
	{`["null","true","1","[]","{}"]`, list(text("null"), text("true"), text("1"), text("[]"), text("{}"))},
	{`"{\"a\":1}"`, text(`{"a":1}`)},
	{`"a, b: [c] {d}"`, text("a, b: [c] {d}")},
}

// TestOrdinary is of P5.1 and P5.3: texts, and what they say.
func TestOrdinary(t *testing.T) {
	for _, w := range ordinary {
		parses(t, w.s, w.v)
		parses(t, "["+w.s+"]", list(w.v))
		parses(t, `{"k":`+w.s+`,"l":0}`, fields(field("k", w.v), field("l", number(0))))
		parses(t, "[0,"+w.s+","+w.s+",0]", list(number(0), w.v, w.v, number(0)))
	}
}

// TestOrder is of P5.1: fields as they stand.
func TestOrder(t *testing.T) {
	parses(t, `{"b":1,"a":2,"":3,"c":4}`, keyed("b", "a", "", "c"))
	parses(t, `{"z":1,"y":2,"x":3}`, keyed("z", "y", "x"))
	parses(t, `[{"b":1,"a":2}]`, list(keyed("b", "a")))
	parses(t, `{"y":{"d":1,"c":2},"x":0}`, fields(field("y", keyed("d", "c")), field("x", number(0))))
}

// TestNone is of P5.1: texts that are no JSON.
func TestNone(t *testing.T) {
	for _, s := range []string{
		// nothing, and what is of no value
		"", " ", "\n", " \t\r\n ", "\x00", "a", "'a'", "`a`", "(1)", "#", "~", "-", "+", ".", "\\", "/", "=", "\\u0031", "\xff", "\xc3\xa9",
		// words
		"NULL", "Null", "nulL", "True", "TRUE", "trUe", "False", "FALSE", "fALSE", "n", "nul", "t", "tru", "f", "fals", "nil", "none", "None", "undefined", "yes", "no", "on", "off",
		"nulll", "nullx", "null1", "truee", "true1", "falsee", "nnull", "nullnull", "truefalse", "null null", "t rue", "true-", "NaN", "Infinity", "-Infinity", "null\x00",
		// something behind the value
		"1 1", "1,", "1,2", "1]", "1}", "1:", "null,", "true]", `"a"b`, `"a" "b"`, `"a""b"`, `"a",`, `"a":1`, "[],", "[][]", "[]]", "[] 1", "{}{}", "{}}", "{} 1", "{},", "1;", "1\x00", "1//", "1 // c", "1/**/", "1#", `1"`, "[1]\\n",
		// something ahead of it
		",1", ":1", "]1", "\xef\xbb\xbf1", "\xef\xbb\xbf", "//\n1", "/**/1", "#\n1", "\x001", "\\n1",
		// lists
		"[", "]", "[[", "[[]", "[1", "[1,", "[,", `["a`, `["a"`, "[}", "[1}", "(]", "[)", "[,]", "[1,]", "[,1]", "[1,,2]", "[,,]", "[1,2,]", "[1 2]", "[1;2]", "[1:2]", "[1.2]", `["a":1]`, `["a" "b"]`, `["a"1]`, "[[]1]", "[[][]]", "[[],]", "[{}{}]", "[truefalse]", "[true false]", "[1],[2]", "[-]", "[a]", "[1 ,]", "[\x00]", "[1,\x00]",
		// maps
		"{", "}", "{{", "{{}", "{]", `{"`, `{"a`, `{"a"`, `{"a":`, `{"a":1`, `{"a":1,`, `{"a":1,"b`, `{"a":1,"b"`, `{"a"}`, `{"a":}`, `{"a",1}`, `{"a" 1}`, `{"a"1}`, `{"a"=1}`, `{"a"::1}`, `{"a":1:2}`, `{"a":"b":1}`, `{"a":1,}`, `{,"a":1}`, `{,}`, "{:}", "{:1}", `{"a":1,,"b":2}`, `{"a":1 "b":2}`, `{"a":1;"b":2}`, `{"a":1"b":2}`, `{"a":{}"b":2}`, `{"a":1]`, `{"a":1 ,}`, `{"a":,"b":1}`, `{"a","b"}`, `{"a":1,"b"}`, `{"a":1,2}`,
		// keys that are no strings
		"{a:1}", "{'a':1}", "{1:2}", "{-1:2}", "{null:1}", "{true:1}", "{[]:1}", `{["a"]:1}`, "{{}:1}", `{{"a":1}:1}`, `{"a":1,b:2}`, `{"a":1,2:2}`, `{"a":1,null:2}`, `{"a" "b":1}`, `{"a""b":1}`, "{\x00:1}",
	} {
		for _, whole := range []string{s, " " + s, s + " ", "\n" + s + "\n"} {
			fails(t, whole, api.ErrForm)
		}
	}
	for _, w := range ordinary {
		for at := 1; at < len(w.s); at++ {
			fails(t, w.s[:at], api.ErrForm)
		}
		for _, more := range []string{"x", ",", ":", "]", "}", `"`, " 1", "\x00", "\xff", "\x0b", " null"} {
			fails(t, w.s+more, api.ErrForm)
			fails(t, w.s+" "+more, api.ErrForm)
		}
	}
}

// parts are all that stands in one text, one behind the other, and saidParts what it says.
var parts = []string{"{", `"b"`, ":", "[", "true", ",", "null", ",", "{", "}", ",", "[", "]", ",", "-5", "]", ",", `"a"`, ":", `"x y"`, ",", `""`, ":", "{", `"k"`, ":", "false", "}", "}"}

func saidParts() api.Value {
	return fields(field("b", list(boolean(1), null(), fields(), list(), number(-5))), field("a", text("x y")), field("", fields(field("k", boolean(0)))))
}

// TestBlanks is of P5.1: the four blanks, at all places between parts, and others that are none.
func TestBlanks(t *testing.T) {
	for _, b := range []string{" ", "\t", "\n", "\r", "  ", "\r\n", " \t\n\r ", "\n\n\n\t\t\t"} {
		parses(t, strings.Join(parts, b), saidParts())
		for at := range len(parts) + 1 {
			parses(t, strings.Join(parts[:at], "")+b+strings.Join(parts[at:], ""), saidParts())
		}
		for _, w := range ordinary {
			parses(t, b+w.s, w.v)
			parses(t, w.s+b, w.v)
			parses(t, b+w.s+b, w.v)
		}
		fails(t, b, api.ErrForm)
	}
	for c := range 256 {
		b := string([]byte{byte(c)})
		if strings.Contains(" \t\n\r", b) {
			continue
		}
		fails(t, b+"[1]", api.ErrForm)
		fails(t, "[1]"+b, api.ErrForm)
		fails(t, " "+b+" [1]", api.ErrForm)
		if !strings.Contains("-0123456789", b) {
			fails(t, "["+b+"1]", api.ErrForm)
			fails(t, "[1"+b+"]", api.ErrForm)
		}
	}
	for _, b := range []string{"\v", "\f", "\x00", "\x08", "\x1f", "\x7f", "\xa0", "\x85", "\u0085", "\u00a0", "\u1680", "\u2003", "\u2028", "\u2029", "\u200b", "\u3000", "\ufeff", `\n`, `\t`, "#", "//", "/**/", "--"} {
		for at := range len(parts) + 1 {
			fails(t, strings.Join(parts[:at], "")+b+strings.Join(parts[at:], ""), api.ErrForm)
			fails(t, strings.Join(parts[:at], " ")+" "+b+" "+strings.Join(parts[at:], " "), api.ErrForm)
		}
	}
	// A blank within a part parts it.
	for _, s := range []string{"t rue", "tr\nue", "nul l", "fals e", "1 2", "- 1", "-\n1", "[1 2]", `"\ n"`, `"\ u0041"`, `"\u 0041"`, `"\u00 41"`, `"\u004 1"`} {
		fails(t, s, api.ErrForm)
	}
}

// TestSize is of P5.1: the longest text, and the first one that is too long, whatever it says.
func TestSize(t *testing.T) {
	const most = 65536
	for n := most - 3; n <= most+3; n++ {
		long := strings.Repeat("x", n-2)
		for s, v := range map[string]api.Value{
			`"` + long + `"`:                            text(long),
			strings.Repeat(" ", n-1) + "1":              number(1),
			"1" + strings.Repeat("\n", n-1):             number(1),
			`{"` + long[4:] + `":1}`:                    keyed(long[4:]),
			"[" + strings.Repeat("\t", n-3) + "1" + "]": list(number(1)),
		} {
			if len(s) != n {
				t.Fatalf("a text of %d bytes, not of %d", len(s), n)
			}
			if n <= most {
				parses(t, s, v)
			} else {
				fails(t, s, api.ErrSize)
			}
		}
		want := api.ErrForm
		if n > most {
			want = api.ErrSize
		}
		for _, s := range []string{strings.Repeat("x", n), strings.Repeat(" ", n), strings.Repeat("[", n), strings.Repeat("\xff", n), strings.Repeat("1", n), strings.Repeat("\x00", n), `"` + strings.Repeat("\xff", n-2) + `"`, strings.Repeat("[]", n)[:n]} {
			fails(t, s, want)
		}
	}
}

// TestNumbers is of P5.1: whole numbers of 64 bits, as digits.Parse has them.
func TestNumbers(t *testing.T) {
	for s, n := range map[string]int64{
		"0": 0, "1": 1, "-1": -1, "9": 9, "10": 10, "-10": -10, "100": 100, "1234567890": 1234567890,
		"2147483647": math.MaxInt32, "2147483648": math.MaxInt32 + 1, "-2147483649": math.MinInt32 - 1, "9007199254740993": 9007199254740993,
		"9223372036854775806": math.MaxInt64 - 1, "9223372036854775807": math.MaxInt64, "-9223372036854775807": math.MinInt64 + 1, "-9223372036854775808": math.MinInt64,
	} {
		v := number(n)
		parses(t, s, v)
		parses(t, "["+s+"]", list(v))
		parses(t, "["+s+","+s+" , "+s+"]", list(v, v, v))
		parses(t, `{"a":`+s+`,"b":`+s+`}`, fields(field("a", v), field("b", v)))
	}
	for _, s := range []string{
		"-", "--", "-0", "00", "01", "-01", "-00", "007", "+1", "+0", "+", "--1", "-+1", "+-1", "- 1", "1-", "1-2", "-1-", "1+1", "0-0",
		"1.", ".5", "-.5", "1.5", "0.0", "1.0", "-1.0", "0.", "1..2", "1,5", "1e5", "1E5", "1e+5", "1e-5", "0e0", "1e", "1e0", "e5", "-e5", "1.5e3", "0x10", "0b1", "0o7", "010", "1_000", "1f", "1n", "1a", "a1",
		"9223372036854775808", "-9223372036854775809", "9999999999999999999", "18446744073709551615", "18446744073709551616", "18446744073709551617", "-18446744073709551616", "1" + strings.Repeat("0", 30), "-1" + strings.Repeat("0", 30), strings.Repeat("0", 20), strings.Repeat("9", 1000),
		"\u0661", "\uff11", "\u00bd", "1\u0661", "\u22121", "NaN", "inf", "-Infinity", "-n", "-true",
	} {
		for _, whole := range []string{s, " " + s + " ", "[" + s + "]", "[1," + s + "]", `{"a":` + s + "}"} {
			if whole != "[1,5]" && whole != "[1,1,5]" {
				fails(t, whole, api.ErrForm)
			}
		}
	}
}

// lettered are the escapes of one letter, and what they say.
var lettered = map[byte]byte{'"': 0x22, '\\': 0x5c, '/': 0x2f, 'b': 0x08, 'f': 0x0c, 'n': 0x0a, 'r': 0x0d, 't': 0x09}

// TestStrings is of P5.1: strings, each byte as it stands and behind a backslash, and such as don't end.
func TestStrings(t *testing.T) {
	for s, said := range map[string]string{
		`""`: "", `"a"`: "a", `"abc def"`: "abc def", `"'"`: "'", `"/"`: "/", `"\/"`: "/", `"a\/b"`: "a/b", `"\\"`: `\`, `"\\\\"`: `\\`, `"\""`: `"`, `"\"\""`: `""`, `"\\\""`: `\"`, `"\\n"`: `\n`, `"\\u0041"`: `\u0041`, `"a\nb\tc\rd\be\ff"`: "a\nb\tc\rd\be\ff",
		"\"\x7f\"": "\x7f", "\"\u0080\"": "\u0080", "\"\u00e9\u20ac\U0001f600\"": "\u00e9\u20ac\U0001f600", "\"\u2028\u2029\ufeff\ufffd\uffff\"": "\u2028\u2029\ufeff\ufffd\uffff", "\"\ud7ff\ue000\U0010ffff\"": "\ud7ff\ue000\U0010ffff", `"<>&"`: "<>&", `"u0041"`: "u0041", `"//"`: "//", `"[1,{"`: "[1,{",
	} {
		says(t, s, said)
	}
	for c := range 256 {
		b := string([]byte{byte(c)})
		switch {
		case b == `"`:
			fails(t, `"""`, api.ErrForm)
			unquotes(t, `"""`, "", 2, true)
		case b == `\`, c < 0x20, c >= 0x80:
			saysNothing(t, `"`+b+`"`)
			saysNothing(t, `"a`+b+`"`)
			if b != `\` {
				saysNothing(t, `"`+b+`b"`)
			}
		default:
			says(t, `"`+b+`"`, b)
			says(t, `"a`+b+`c"`, "a"+b+"c")
		}
		if said, ok := lettered[byte(c)]; ok {
			says(t, `"\`+b+`"`, string([]byte{said}))
			says(t, `"a\`+b+`\`+b+`c"`, "a"+string([]byte{said, said})+"c")
		} else {
			saysNothing(t, `"\`+b+`"`)
			saysNothing(t, `"a\`+b+`c"`)
		}
	}
	for _, s := range []string{`"`, `"a`, `"abc`, `"\`, `"a\`, `"\"`, `"a\"`, `"\\\"`, `"\u`, `"\u0`, `"\u00`, `"\u004`, `"\u0041`, "\"a\n", "\"a\n\"", "\"a\x00\"", "\"a\r\nb\"", "\"\t\"", `"\x41"`, `"\0"`, `"\1"`, `"\'"`, `"\a"`, `"\v"`, `"\e"`, `"\N"`, `"\B"`, `"\U00000041"`, `"\u{41}"`, "\"\\\n\"", "\"\\\x00\""} {
		saysNothing(t, s)
	}
	// Bytes that are not valid, also such as stand beside an escape, and where nothing else is wrong.
	for _, b := range []string{"\x80", "\xbf", "\xc0\x80", "\xc1\xbf", "\xc3", "\xe2\x82", "\xe0\x80\x80", "\xed\xa0\x80", "\xed\xbf\xbf", "\xed\xa0\xbd\xed\xb8\x80", "\xf0\x9f\x98", "\xf4\x90\x80\x80", "\xf8\x88\x80\x80\x80", "\xfe", "\xff"} {
		for _, s := range []string{b, "a" + b, b + "a", "\u00e9" + b, b + `\n`, `\n` + b, b + `\u00e9`, b + `\u0080`, `\u00e9` + b, `\ud83d` + b, b + `\"`} {
			saysNothing(t, `"`+s+`"`)
		}
	}
	for _, s := range []string{"\xff\"a\"", "\"a\"\xff", "[\xc3\xa9]", "{\xff}", "[1]\x80", "\xc3\xa9"} {
		fails(t, s, api.ErrForm)
	}
}

// TestUnits is of P5.1: \u with each number of four digits, small and great, and with fewer, or others.
func TestUnits(t *testing.T) {
	for u := range 0x10000 {
		if t.Failed() {
			return
		}
		small, great := fmt.Sprintf("%04x", u), fmt.Sprintf("%04X", u)
		if u >= 0xd800 && u <= 0xdfff {
			saysNothing(t, `"\u`+small+`"`)
			saysNothing(t, `"\u`+great+`x"`)
			continue
		}
		said := string(rune(u))
		parses(t, `"\u`+small+`"`, text(said))
		unquotes(t, `"\u`+great+`" `, said, 8, true)
		parses(t, `"a\u`+small+`\u`+great+`1"`, text("a"+said+said+"1"))
	}
	for _, s := range []string{`"\u00e9"`, `"\u00E9"`} {
		says(t, s, "\u00e9")
	}
	says(t, `"\uAbCd\uaBcD"`, "\uabcd\uabcd")
	says(t, `"\u0000"`, "\x00")
	says(t, `"a\u0000b"`, "a\x00b")
	says(t, `"\u0041B"`, "AB")
	says(t, `"\u00411"`, "A1")
	says(t, `"\u0022\u005c\u002f"`, `"\/`)
	says(t, `"\u005cn"`, `\n`)
	says(t, `"\u005cu0041"`, `\u0041`)
	for place := range 4 {
		for c := range 256 {
			digits := []byte("0041")
			digits[place] = byte(c)
			if n, err := strconv.ParseUint(string(digits), 16, 16); err == nil {
				says(t, `"\u`+string(digits)+`"`, string(rune(n)))
			} else {
				saysNothing(t, `"\u`+string(digits)+`"`)
				saysNothing(t, `"\u`+string(digits)+`1"`)
			}
		}
	}
	for _, s := range []string{`"\u"`, `"\u4"`, `"\u41"`, `"\u041"`, `"\u041 "`, `"\u 041"`, `"\u-041"`, `"\u+041"`, `"\u0x41"`, `"\u0_41"`, `"\u004g"`, `"\u004G"`, `"\U0041"`, `"\\u0041\u"`, `"\u041\u0041"`, "\"\\u00\xc3\xa9\"", "\"\\u004\uff11\""} {
		saysNothing(t, s)
	}
}

// TestSurrogates is of P5.1: they stand in pairs alone.
func TestSurrogates(t *testing.T) {
	pair := func(form string, high, low int) {
		t.Helper()
		want := utf16.DecodeRune(rune(high), rune(low))
		s := `"` + fmt.Sprintf(form, high, low) + `"`
		if high >= 0xd800 && high <= 0xdbff && low >= 0xdc00 && low <= 0xdfff {
			parses(t, s, text(string(want)))
			unquotes(t, s, string(want), len(s), true)
		} else {
			saysNothing(t, s)
		}
	}
	edges := []int{0xd800, 0xd801, 0xd83d, 0xdaaa, 0xdbfe, 0xdbff, 0xdc00, 0xdc01, 0xde00, 0xdeee, 0xdffe, 0xdfff}
	for _, high := range edges {
		if t.Failed() {
			return
		}
		for low := 0xd700; low <= 0xe0ff; low++ {
			if high < 0xdc00 || low >= 0xd800 && low <= 0xdfff {
				pair(`\u%04x\u%04X`, high, low)
			}
		}
	}
	for high := 0xd800; high <= 0xdbff; high++ {
		if t.Failed() {
			return
		}
		for _, low := range edges {
			pair(`\u%04X\u%04x`, high, low)
		}
	}
	for s, said := range map[string]string{
		`"\ud83d\ude00"`: "\U0001f600", `"\uD83D\uDE00"`: "\U0001f600", `"\ud800\udc00"`: "\U00010000", `"\udbff\udfff"`: "\U0010ffff", `"\ud800\udfff"`: "\U000103ff", `"\udbff\udc00"`: "\U0010fc00",
		`"a\ud83d\ude00b"`: "a\U0001f600b", `"\ud83d\ude00\ud83d\ude01"`: "\U0001f600\U0001f601", `"\ud7ff\ue000"`: "\ud7ff\ue000", `"\\ud83d"`: `\ud83d`, `"\ud83d\ude00\u0041"`: "\U0001f600A",
	} {
		says(t, s, said)
	}
	for _, s := range []string{
		// a high one alone
		`\ud83d`, `\ud83da`, `a\ud83d`, `\ud83d `, `\ud83d\n`, `\ud83d\\`, `\ud83d\"`, `\ud83d\u0041`, `\ud83d\u`, `\ud83d\ude0`, `\ud83d\uzzzz`, `\ud83dude00`, `\ud83d\\ude00`, `\ud83d \ude00`, `\ud83d/\ude00`, `\ud83d\U0000de00`, `\ud83d\ue000`, `\ud83d\ud7ff`, `\ud83d\ude00\ud83d`,
		// a low one alone
		`\ude00`, `\ude00a`, `a\ude00`, `\ude00\u0041`, `\u0041\ude00`, `\ud83d\ude00\ude00`,
		// two high ones, two low ones, a low one ahead of a high one
		`\ud83d\ud83d`, `\ud83d\ud83d\ude00`, `\ude00\ude00`, `\ude00\ud83d`, `\ude00\ud83d\ude00`, `\ud83d\ud83e`,
		// as bytes
		"\xed\xa0\xbd", "\xed\xb8\x80", "\xed\xa0\xbd\xed\xb8\x80", "\\ud83d\xed\xb8\x80", "\xed\xa0\xbd\\ude00",
	} {
		saysNothing(t, `"`+s+`"`)
	}
}

// TestKeys is of P5.1: each key once, however it is written.
func TestKeys(t *testing.T) {
	for s, v := range map[string]api.Value{
		`{"":1}`:                              keyed(""),
		`{"a":1,"A":2,"b":3}`:                 keyed("a", "A", "b"),
		`{"a":1,"a ":2," a":3}`:               keyed("a", "a ", " a"),
		`{"a":1,"aa":2,"":3}`:                 keyed("a", "aa", ""),
		`{"a":1,"a\u0000":2}`:                 keyed("a", "a\x00"),
		`{"\u00e9":1,"e\u0301":2}`:            keyed("\u00e9", "e\u0301"),
		`{"\u0061":1,"\u0062":2}`:             keyed("a", "b"),
		`{"\n":1,"\\n":2,"n":3}`:              keyed("\n", `\n`, "n"),
		`{"null":1,"1":2}`:                    keyed("null", "1"),
		`{"a":{"a":[{"a":1}]}}`:               fields(field("a", fields(field("a", list(keyed("a")))))),
		`[{"a":1},{"a":1}]`:                   list(keyed("a"), keyed("a")),
		`{"x":{"a":1},"y":{"a":1}}`:           fields(field("x", keyed("a")), field("y", keyed("a"))),
		`{"a":"a","b":"a","c":"b"}`:           fields(field("a", text("a")), field("b", text("a")), field("c", text("b"))),
		"{\"\ufb01\":1,\"fi\":2}":             keyed("\ufb01", "fi"),
		`{"\ud83d\ude00":1,"\ud83d\ude01":2}`: keyed("\U0001f600", "\U0001f601"),
	} {
		parses(t, s, v)
	}
	for _, s := range []string{
		`{"a":1,"a":2}`, `{"a":1,"a":1}`, `{"":1,"":1}`, `{"a":null,"a":null}`, `{"a":1,"b":2,"a":3}`, `{"a":1,"b":2,"b":3}`, `{"b":1,"a":2,"c":3,"d":4,"b":5}`, `{"a":1, "a" : 2}`,
		`{"a":1,"\u0061":2}`, `{"\u0061":1,"a":2}`, `{"\u0061":1,"\u0061":2}`, `{"/":1,"\/":2}`, `{"\u002f":1,"\/":2}`, `{"\n":1,"\u000a":2}`, `{"\n":1,"\u000A":2}`, `{"\"":1,"\u0022":2}`, `{"\\":1,"\u005c":2}`, `{"\u0000":1,"\u0000":2}`,
		"{\"\u00e9\":1,\"\\u00e9\":2}", "{\"\U0001f600\":1,\"\\ud83d\\ude00\":2}",
		`[{"a":1,"a":2}]`, `[1,{"a":1},{"b":1,"b":2}]`, `{"x":{"a":1,"a":2}}`, `{"x":[{"y":{"a":1,"b":0,"a":2}}]}`, `{"a":{"b":1},"a":{"c":1}}`, `{"a":[],"a":[]}`,
	} {
		fails(t, s, api.ErrForm)
	}
}

// TestDepth is of P5.1: the last depth that may be, and the first one that may not.
func TestDepth(t *testing.T) {
	for n := range 40 {
		lists, maps, both, ends := strings.Repeat("[", n), strings.Repeat(`{"k":`, n), strings.Repeat(`[{"k":`, n), strings.Repeat("}]", n)
		want := map[string]int{lists + "1" + strings.Repeat("]", n): n + 1, maps + "1" + strings.Repeat("}", n): n + 1, both + "null" + ends: 2*n + 1}
		if n > 0 {
			want[lists+strings.Repeat("]", n)] = n
			want[lists+"{}"+strings.Repeat("]", n)] = n + 1
			want[strings.Repeat("[0,", n)+"[]"+strings.Repeat(",{}]", n)] = n + 1
			want[strings.Repeat("[[],", n)+"1"+strings.Repeat(",[[]]]", n)] = n + 2
		}
		for s, depth := range want {
			v, e := jsonval.Parse(s)
			switch {
			case depth <= 12 && (e != api.OK || tree.Depth(v) != depth):
				t.Errorf("Parse(%s): error %d, depth %d, want %d", s, int(e), tree.Depth(v), depth)
			case depth > 12:
				fails(t, s, api.ErrForm)
			}
		}
	}
	// Many lists side by side are not deep.
	wide := strings.TrimSuffix(strings.Repeat("[[]],", 100), ",")
	if v, e := jsonval.Parse("[" + wide + "]"); e != api.OK || tree.Depth(v) != 3 || tree.Count(v) != 201 {
		t.Errorf("Parse of many lists: %d", int(e))
	}
	if _, e := jsonval.Parse(strings.Repeat("[", 9) + wide + strings.Repeat("]", 9)); e != api.OK {
		t.Errorf("Parse of many lists in lists: %d", int(e))
	}
}

// TestCount is of P5.1: the last count that may be, and the first one that may not.
func TestCount(t *testing.T) {
	for n := 1990; n <= 2010; n++ {
		ones := strings.TrimSuffix(strings.Repeat("1,", n-1), ",")
		var keys []string
		for i := range n - 1 {
			keys = append(keys, fmt.Sprintf(`"%d":0`, i))
		}
		for _, s := range []string{"[" + ones + "]", "{" + strings.Join(keys, ",") + "}", "[[" + ones[4:] + "],1]", `{"a":[` + ones[4:] + `],"b":1}`} {
			v, e := jsonval.Parse(s)
			switch {
			case n <= 2000 && (e != api.OK || tree.Count(v) != n):
				t.Errorf("Parse of %d: error %d, count %d", n, int(e), tree.Count(v))
			case n > 2000:
				fails(t, s, api.ErrForm)
			}
		}
	}
}

// TestUnquote is of P5.1: what begins a text.
func TestUnquote(t *testing.T) {
	for _, s := range []string{"", " ", "a", "1", "null", "[", `["a"]`, "{", `{"a":1}`, ` "a"`, "\n\"a\"", `a"b"`, `'a'`, "`a`", `\"a"`, `"`, `""`[:1], "\x00\"a\"", "\xef\xbb\xbf\"a\"", "\u201ca\u201d", "\xff"} {
		unquotes(t, s, "", 0, false)
	}
	for _, w := range []struct {
		s, said string
		n       int
	}{
		{`""`, "", 2},
		{`"" `, "", 2},
		{`"""`, "", 2},
		{`"a"`, "a", 3},
		{`"a"b`, "a", 3},
		{`"a":1}`, "a", 3},
		{`"a""b"`, "a", 3},
		{`"a" "b`, "a", 3},
		{`"a"\`, "a", 3},
		{"\"a\"\xff\x00\n", "a", 3},
		{`"\""`, `"`, 4},
		{`"\"":`, `"`, 4},
		{`"\\"n"`, `\`, 4},
		{`"\u0041"\u0041`, "A", 8},
		{`"\ud83d\ude00"\ud83d`, "\U0001f600", 14},
		{"\"\u00e9\"\u00e9", "\u00e9", 4},
		{`"a\nb"` + strings.Repeat("x", 100), "a\nb", 6},
	} {
		unquotes(t, w.s, w.said, w.n, true)
	}
}

// TestQuote is of P5.2: each byte.
func TestQuote(t *testing.T) {
	short := map[int]string{0x08: `\b`, 0x09: `\t`, 0x0a: `\n`, 0x0c: `\f`, 0x0d: `\r`, '"': `\"`, '\\': `\\`}
	for c := range 256 {
		b := string([]byte{byte(c)})
		want, ok := short[c]
		switch {
		case ok:
		case c < 0x20:
			want = fmt.Sprintf(`\u00%02x`, c)
		default:
			want = b
		}
		quotes(t, b, `"`+want+`"`)
		quotes(t, "a"+b+b+"1", `"a`+want+want+`1"`)
	}
	for s, want := range map[string]string{
		"": `""`, "a b": `"a b"`, "/": `"/"`, "</a>&'": `"</a>&'"`, "\x7f": "\"\x7f\"", "\x00": `"\u0000"`, "\x1f": `"\u001f"`, "\x0b\x0e": `"\u000b\u000e"`, "\x1b[0m": `"\u001b[0m"`,
		"\u0080\u00e9": "\"\u0080\u00e9\"", "\u2028\u2029\ufeff": "\"\u2028\u2029\ufeff\"", "\U0001f600": "\"\U0001f600\"", "\xff": "\"\xff\"", "\xed\xa0\x80": "\"\xed\xa0\x80\"",
		`\n`: `"\\n"`, `\u0041`: `"\\u0041"`, `\"`: `"\\\""`, "u0041": `"u0041"`, `"a"`: `"\"a\""`, "\r\n": `"\r\n"`,
	} {
		quotes(t, s, want)
	}
}

// TestText is of P5.2: values of each kind, canonical.
func TestText(t *testing.T) {
	for _, w := range ordinary {
		writes(t, w.v, w.s)
	}
	for _, w := range []struct {
		v    api.Value
		want string
	}{
		{number(0), "0"},
		{number(-1), "-1"},
		{number(math.MaxInt64), "9223372036854775807"},
		{number(math.MinInt64), "-9223372036854775808"},
		{text("a\"b\\c/\n\x00\x7f\u00e9"), "\"a\\\"b\\\\c/\\n\\u0000\x7f\u00e9\""},
		{keyed("b", "a"), `{"a":2,"b":1}`},
		{keyed("c", "b", "a"), `{"a":3,"b":2,"c":1}`},
		{keyed("aa", "a", "", "b", "B"), `{"":3,"B":5,"a":2,"aa":1,"b":4}`},
		{keyed("\U0001f600", "\uffff", "~", "\n", `"`), "{\"\\n\":4,\"\\\"\":5,\"~\":3,\"\uffff\":2,\"\U0001f600\":1}"},
		{list(keyed("b", "a"), keyed("d", "c")), `[{"a":2,"b":1},{"c":2,"d":1}]`},
		{list(list(keyed("b", "a"))), `[[{"a":2,"b":1}]]`},
		{fields(field("b", keyed("z", "y")), field("a", list(keyed("q", "p")))), `{"a":[{"p":2,"q":1}],"b":{"y":2,"z":1}}`},
		{list(number(3), number(1), number(2)), "[3,1,2]"},
		{list(text("b"), text("a")), `["b","a"]`},
		{api.Value{Kind: api.KindList, List: []api.Value{}, Fields: []api.Field{}}, "[]"},
		{api.Value{Kind: api.KindMap, List: []api.Value{}, Fields: []api.Field{}}, "{}"},
	} {
		writes(t, w.v, w.want)
	}
}

// plainText is a value as JSON, as another writer tells it.
func plainText(v api.Value) string {
	quoted := func(s string) string {
		pairs := []string{`"`, `\"`, `\`, `\\`, "\b", `\b`, "\f", `\f`, "\n", `\n`, "\r", `\r`, "\t", `\t`}
		for c := range 0x20 {
			pairs = append(pairs, string(rune(c)), fmt.Sprintf(`\u%04x`, c))
		}
		return `"` + strings.NewReplacer(pairs...).Replace(s) + `"`
	}
	switch v.Kind {
	case api.KindBool:
		return []string{"false", "true"}[v.Int]
	case api.KindInt:
		return strconv.FormatInt(v.Int, 10)
	case api.KindText:
		return quoted(v.Text)
	case api.KindList:
		var l []string
		for _, x := range v.List {
			l = append(l, plainText(x))
		}
		return "[" + strings.Join(l, ",") + "]"
	case api.KindMap:
		texts := map[string]string{}
		var keys, l []string
		for _, f := range v.Fields {
			keys = append(keys, f.Key)
			texts[f.Key] = plainText(f.Value)
		}
		slices.Sort(keys)
		for _, key := range keys {
			l = append(l, quoted(key)+":"+texts[key])
		}
		return "{" + strings.Join(l, ",") + "}"
	}
	return "null"
}

// surrogates are escapes: a pair, one alone (its first part), or another one.
var surrogates = regexp.MustCompile(`(?s)\\u[dD][89abAB][[:xdigit:]]{2}\\u[dD][c-fC-F][[:xdigit:]]{2}|(\\u[dD][89a-fA-F][[:xdigit:]]{2})|\\.`)

// whole are numbers without a point and so on.
var whole = regexp.MustCompile(`^(0|-?[1-9][0-9]*)$`)

// plainParse is what a text says, as another reader of JSON, and of the chapter, tells it.
func plainParse(s string) (api.Value, bool) {
	if !utf8.ValidString(s) || !json.Valid([]byte(s)) {
		return null(), false
	}
	for _, m := range surrogates.FindAllStringSubmatch(s, -1) {
		if m[1] != "" {
			return null(), false
		}
	}
	d := json.NewDecoder(strings.NewReader(s))
	d.UseNumber()
	v, ok := plainValue(d)
	n, depth := sizes(v)
	if !ok || n > 2000 || depth > 12 {
		return null(), false
	}
	return v, true
}

// plainValue is the next value of a reader; false, if it is one that the chapter doesn't have.
func plainValue(d *json.Decoder) (api.Value, bool) {
	part, _ := d.Token()
	ok := true
	switch x := part.(type) {
	case bool:
		return boolean(map[bool]int64{true: 1}[x]), true
	case string:
		return text(x), true
	case json.Number:
		n, err := strconv.ParseInt(string(x), 10, 64)
		return number(n), err == nil && whole.MatchString(string(x))
	case json.Delim:
		v, seen := list(), map[string]bool{}
		if x == '{' {
			v = fields()
		}
		for d.More() {
			var key json.Token
			if x == '{' {
				key, _ = d.Token()
			}
			one, isOne := plainValue(d)
			ok = ok && isOne
			if x == '{' {
				ok = ok && !seen[key.(string)]
				seen[key.(string)] = true
				v.Fields = append(v.Fields, field(key.(string), one))
			} else {
				v.List = append(v.List, one)
			}
		}
		d.Token()
		return v, ok
	}
	return null(), true
}

// sizes are the count and the depth of a value.
func sizes(v api.Value) (n, depth int) {
	within := slices.Clone(v.List)
	for _, f := range v.Fields {
		within = append(within, f.Value)
	}
	for _, x := range within {
		count, d := sizes(x)
		n += count
		depth = max(depth, d)
	}
	return n + 1, depth + 1
}

// holds holds Parse of a text that is not too long against the other reader, and tells whether it is JSON.
func holds(t *testing.T, s string) bool {
	t.Helper()
	want, ok := plainParse(s)
	if !ok {
		fails(t, s, api.ErrForm)
		return false
	}
	parses(t, s, want)
	follows(t, want)
	return true
}

// follows is P5.3 of a value that may be: what was written is parsed, the same, and so again.
func follows(t *testing.T, v api.Value) {
	t.Helper()
	s := jsonval.Text(v)
	if want := plainText(v); s != want {
		t.Errorf("Text(%s): %s, want %s", short(told(v)), short(strconv.Quote(s)), short(strconv.Quote(want)))
	}
	if len(s) > api.MaxBytes {
		return
	}
	parses(t, s, tree.Canon(v))
	back, _ := jsonval.Parse(s)
	if !tree.Same(v, back) {
		t.Errorf("what was written of %s is parsed as %s", short(told(v)), short(told(back)))
	}
	if again := jsonval.Text(back); again != s {
		t.Errorf("%s is parsed and written as %s", short(strconv.Quote(s)), short(strconv.Quote(again)))
	}
}

// TestShortTexts is of P5.1 and P5.3: all texts of a few parts, and of a few bytes, against the other reader.
func TestShortTexts(t *testing.T) {
	for _, w := range []struct {
		of   []string
		most int
	}{
		{[]string{"[", "]", "{", "}", ",", ":", `"a"`, `"b"`, "1", "null"}, 5},
		{[]string{"{", "}", ",", ":", `"a"`, `"\u0061"`, " "}, 6},
		{[]string{"[", "]", "{", "}", ",", ":", `"`, `\`, "u", "0", "1", "-", " ", "t", ".", "e"}, 4},
		{[]string{"0", "1", "9", "-", "+", ".", "e", " "}, 5},
		{[]string{`"`, `\`, `\ud83d`, `\ude00`, `\u0041`, "n", "\xc3", "\xa9", "\n"}, 5},
	} {
		right := 0
		texts := []string{""}
		for range w.most {
			var longer []string
			for _, s := range texts {
				for _, more := range w.of {
					longer = append(longer, s+more)
				}
			}
			for _, s := range longer {
				if t.Failed() {
					return
				}
				if holds(t, s) {
					right++
				}
			}
			texts = longer
		}
		if right < 5 {
			t.Errorf("only %d of the texts of %q are JSON: too few to tell", right, w.of)
		}
	}
}

// some is a value that may be, by a fixed row of numbers.
func some(r *rand.Rand, left int) api.Value {
	texts := []string{"", "x", "a b", "\u00e9", "\n", "\"", "\\", "/", "\x00", "\x1f", "\x7f", "\u2028", "\U0001f600", "\\u0041", "null", "1"}
	kind := r.Intn(6)
	if left == 0 {
		kind = r.Intn(4)
	}
	v := api.Value{Kind: kind}
	switch kind {
	case api.KindBool:
		v.Int = int64(r.Intn(2))
	case api.KindInt:
		v.Int = int64(r.Uint64()) >> r.Intn(64)
	case api.KindText:
		v.Text = texts[r.Intn(len(texts))] + texts[r.Intn(len(texts))]
	case api.KindList:
		for range r.Intn(4) {
			v.List = append(v.List, some(r, left-1))
		}
	case api.KindMap:
		for _, i := range r.Perm(len(texts))[:r.Intn(5)] {
			v.Fields = append(v.Fields, field(texts[i], some(r, left-1)))
		}
	}
	return v
}

// TestSomeValues is of P5.2 and P5.3: values of all sorts, written and parsed.
func TestSomeValues(t *testing.T) {
	r := rand.New(rand.NewSource(5))
	for i := range 20000 {
		if t.Failed() {
			return
		}
		v := some(r, i%7)
		if tree.Check(v) {
			follows(t, v)
		}
	}
	for _, w := range ordinary {
		follows(t, w.v)
	}
	deep := text("x")
	for i := range 11 {
		follows(t, deep)
		if i%2 == 0 {
			deep = list(deep)
		} else {
			deep = fields(field("k", deep))
		}
	}
	follows(t, deep)
	var many []api.Value
	for i := range 1999 {
		many = append(many, number(int64(-i)))
	}
	follows(t, list(many...))
}

// TestSomeTexts is of P5.1 and P5.3: texts of values, with something changed, against the other reader.
func TestSomeTexts(t *testing.T) {
	r := rand.New(rand.NewSource(6))
	bits := []string{"", " ", ",", ":", "[", "]", "{", "}", `"`, `\`, "0", "1", "-", ".", "null", `"a":1,`, "1,", `\u00e9`, `\ud83d`, `\/`, "\n", "\x00", "\xff", "\xc3\xa9"}
	right := [2]int{}
	for i := range 60000 {
		if t.Failed() {
			return
		}
		s := plainText(some(r, 1+i%4))
		for range 1 + r.Intn(2) {
			from := r.Intn(len(s) + 1)
			to := min(len(s), from+r.Intn(3))
			s = s[:from] + bits[r.Intn(len(bits))] + s[to:]
		}
		if holds(t, s) {
			right[1]++
		} else {
			right[0]++
		}
	}
	if min(right[0], right[1]) < 5000 {
		t.Errorf("%d texts are no JSON, %d are: too few to tell", right[0], right[1])
	}
}

// TestQuoted is of P5.1 to P5.3: a text that is valid is unquoted of its Quote, another one is not.
func TestQuoted(t *testing.T) {
	r := rand.New(rand.NewSource(7))
	bits := []string{"a", "\"", "\\", "/", "\b", "\f", "\n", "\r", "\t", "\x00", "\x1f", "\x7f", "\u00e9", "\u20ac", "\U0001f600", "\ud7ff", "\ufffd", "u0041", "\xff", "\xc3", "\xa9"}
	for range 20000 {
		if t.Failed() {
			return
		}
		s := ""
		for range r.Intn(8) {
			s += bits[r.Intn(len(bits))]
		}
		q := jsonval.Quote(s)
		if !utf8.ValidString(s) {
			saysNothing(t, q)
			continue
		}
		says(t, q, s)
		if q != plainText(text(s)) {
			t.Errorf("Quote(%q): %q", s, q)
		}
	}
	for p := range rune(utf8.MaxRune + 1) {
		if t.Failed() {
			return
		}
		if !utf8.ValidRune(p) {
			continue
		}
		s := string(p)
		if got, n, ok := jsonval.Unquote(jsonval.Quote(s)); got != s || n < 3 || !ok {
			t.Errorf("Unquote of Quote of %x: %q, %d, %v", p, got, n, ok)
		}
	}
}

// roomy is v in new memory, each of its lists with room behind it, so that a call that writes there is found out.
func roomy(v api.Value) api.Value {
	out := api.Value{Kind: v.Kind, Int: v.Int, Text: v.Text, List: make([]api.Value, 0, len(v.List)+3), Fields: make([]api.Field, 0, len(v.Fields)+3)}
	for _, x := range v.List {
		out.List = append(out.List, roomy(x))
	}
	for _, f := range v.Fields {
		out.Fields = append(out.Fields, field(f.Key, roomy(f.Value)))
	}
	return out
}

// spread hands all lists of v, with the room behind each, to change.
func spread(v api.Value, change func(l []api.Value, fs []api.Field)) {
	for _, x := range v.List {
		spread(x, change)
	}
	for _, f := range v.Fields {
		spread(f.Value, change)
	}
	change(v.List[:cap(v.List)], v.Fields[:cap(v.Fields)])
}

// toldRoom is what is told of v with the room behind its lists.
func toldRoom(v api.Value) string {
	var b strings.Builder
	spread(v, func(l []api.Value, fs []api.Field) { b.WriteString(told(list(l...)) + told(fields(fs...))) })
	return b.String()
}

// TestHandedIn is of R3: what is handed in stays as it is, and so does the room behind it.
func TestHandedIn(t *testing.T) {
	for _, v := range []api.Value{keyed("b", "a"), list(keyed("d", "c"), text("x"), list()), fields(field("z", keyed("q", "p")), field("b", list(keyed("y", "x"))), field("a", null())), {Kind: api.KindText, Fields: []api.Field{field("b", null()), field("a", null())}}} {
		v := roomy(v)
		before := toldRoom(v)
		first := jsonval.Text(v)
		if second := jsonval.Text(v); first != second {
			t.Errorf("Text: %s, then %s", first, second)
		}
		if after := toldRoom(v); after != before {
			t.Errorf("%s was changed: %s", before, after)
		}
	}
}

// TestToldApart is of R3: no two answers share a list, nor do two lists of one.
func TestToldApart(t *testing.T) {
	const s = `{"b":[1,[2,3,4],{"d":1,"c":[5,6,7]}],"a":{"y":{},"x":[[],[8]]},"e":[9,10,11,12,13]}`
	v, _ := jsonval.Parse(s)
	want := told(v)
	other, _ := jsonval.Parse(s)
	// Whatever is written behind a list is in no other one.
	var room func(v api.Value)
	room = func(v api.Value) {
		for _, x := range v.List {
			room(x)
		}
		for _, f := range v.Fields {
			room(f.Value)
		}
		_ = append(v.List, text("spoilt"))
		_ = append(v.Fields, field("spoilt", text("spoilt")))
	}
	room(v)
	if got := told(v); got != want {
		t.Errorf("two lists share memory: %s", got)
	}
	spread(v, func(l []api.Value, fs []api.Field) {
		for i := range l {
			l[i] = text("spoilt")
		}
		for i := range fs {
			fs[i] = field("spoilt", text("spoilt"))
		}
	})
	if got := told(other); got != want {
		t.Errorf("two answers share memory: %s", got)
	}
	parses(t, s, other)
}

// TestVeryLong is of P1 and R5: texts and values far beyond what may be.
func TestVeryLong(t *testing.T) {
	for _, bit := range []string{"[", "]", "{", "}", `"`, `\`, `\\`, `\u`, `\ud83d`, "-", "0", "1", ",", ":", " ", "x", "null", "null,", "[]", "[[],", `{"":`, `{"a":[`, "\x00", "\xff", "\u00e9"} {
		s := strings.Repeat(bit, api.MaxBytes/len(bit))
		for _, whole := range []string{s, "[" + s[:api.MaxBytes-10], `"` + s[:api.MaxBytes-10], `{"` + s[:api.MaxBytes-10]} {
			fails(t, whole, api.ErrForm)
		}
		fails(t, strings.Repeat(s, 20), api.ErrSize)
		jsonval.Unquote(strings.Repeat(s, 20))
		jsonval.Unquote(`"` + strings.Repeat(s, 20))
		jsonval.Quote(strings.Repeat(s, 20))
	}
	long := strings.Repeat("a\u00e9\n\"", 1<<20)
	quoted := jsonval.Quote(long)
	quotes(t, long, `"`+strings.Repeat("a\u00e9\\n\\\"", 1<<20)+`"`)
	unquotes(t, quoted+"x", long, len(quoted), true)
	writes(t, text(long), quoted)
	deep, deepMaps := null(), null()
	for range 50000 {
		deep, deepMaps = list(deep), fields(field("k", deepMaps))
	}
	for _, v := range []api.Value{
		deep, deepMaps, list(make([]api.Value, 300000)...), fields(make([]api.Field, 300000)...),
		{Kind: 6}, {Kind: -1, Int: 5}, {Kind: math.MaxInt, Text: "x"}, {Kind: math.MinInt}, boolean(2), boolean(-1), boolean(math.MinInt64), text("\xff"), keyed("\xff"), keyed("a", "a"), {Kind: api.KindText, List: []api.Value{null()}}, {Kind: api.KindList, Fields: []api.Field{field("a", null())}}, {Kind: api.KindMap, List: []api.Value{null()}, Text: "x", Int: 1},
	} {
		jsonval.Text(v)
	}
}

// TestSame is of R4: the same calls have the same answers, whatever was asked between.
func TestSame(t *testing.T) {
	for range 3 {
		TestExamples(t)
		TestOrdinary(t)
		TestKeys(t)
		TestUnquote(t)
		TestQuote(t)
		TestText(t)
	}
}

// FuzzParse is of P1, P5.1 and P5.3: whatever the text is, Parse says what another reader says.
func FuzzParse(f *testing.F) {
	for _, w := range ordinary {
		f.Add(w.s)
	}
	f.Add(strings.Join(parts, " "))
	f.Add(`["\ud83d\ude00\u00e9\"\\\/\b\f\n\r\t",-9223372036854775808,01,1.5]`)
	f.Fuzz(func(t *testing.T, s string) {
		if len(s) > api.MaxBytes {
			fails(t, s, api.ErrSize)
			return
		}
		holds(t, s)
		said, n, ok := jsonval.Unquote(s)
		want := ""
		if ok {
			v, isText := plainParse(s[:n])
			if !isText || v.Kind != api.KindText {
				t.Errorf("Unquote(%q): a string of %d bytes", s, n)
			}
			want = v.Text
		}
		if said != want || ok != (n > 0) {
			t.Errorf("Unquote(%q): %q, %d, %v", s, said, n, ok)
		}
	})
}
