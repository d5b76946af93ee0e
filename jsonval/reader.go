package jsonval

import (
	"strconv"
	"strings"

	"vestibule/api"
	"vestibule/digits"
	"vestibule/utf"
)

const (
	// blanks are the bytes that may stand about each part.
	blanks = " \t\n\r"
	// numeric are the bytes that numbers are made of.
	numeric = "-0123456789"
)

// How a point is written behind \u: with so many digits to base 16.
const (
	unitDigits = 4
	unitBits   = 16
	unitBase   = 16
)

// Points from firstPaired on are two units: the bits above halfBits are those of a mark, the others half of what the point is beyond firstPaired.
const (
	firstPaired = 0x10000
	halfBits    = 10
	halfMask    = 1<<halfBits - 1
	highMark    = 0xd800 >> halfBits
	lowMark     = 0xdc00 >> halfBits
)

// reader goes over a text: what it has read lies ahead of at. depth is in how many lists and maps it is.
type reader struct {
	s         string
	at, depth int
	escapes   map[byte]byte
}

// listReader reads a list's values.
type listReader struct {
	*reader
	values []api.Value
}

// mapReader reads a map's fields.
type mapReader struct {
	*reader
	fields []api.Field
}

func newReader(s string) *reader {
	return &reader{s: s, escapes: escapes()}
}

// one reads a value of the list.
func (l *listReader) one() bool {
	v, ok := l.value()
	l.values = append(l.values, v)
	return ok
}

// one reads a field of the map.
func (m *mapReader) one() bool {
	m.pass(blanks)
	if !m.took(quote) {
		return false
	}
	key, ok := m.text()
	m.pass(blanks)
	if !ok || !m.took(":") {
		return false
	}
	v, ok := m.value()
	m.fields = append(m.fields, api.Field{Key: key, Value: v})
	return ok
}

// value reads a value, with the blanks about it.
func (r *reader) value() (api.Value, bool) {
	r.pass(blanks)
	v, ok := r.bare()
	r.pass(blanks)
	return v, ok
}

// bare reads a value that begins right here.
func (r *reader) bare() (api.Value, bool) {
	switch {
	case r.took("null"):
		return api.Value{Kind: api.KindNull}, true
	case r.took("false"):
		return api.Value{Kind: api.KindBool}, true
	case r.took("true"):
		return api.Value{Kind: api.KindBool, Int: 1}, true
	case r.took(quote):
		s, ok := r.text()
		return api.Value{Kind: api.KindText, Text: s}, ok
	case r.took("["):
		l := listReader{reader: r}
		ok := l.all(l.one, "]")
		return api.Value{Kind: api.KindList, List: l.values}, ok
	case r.took("{"):
		m := mapReader{reader: r}
		ok := m.all(m.one, "}")
		return api.Value{Kind: api.KindMap, Fields: m.fields}, ok
	}
	return r.number()
}

// all reads by one, with a comma between two each, up to the bracket at the end.
func (r *reader) all(one func() bool, end string) bool {
	// A value so deep may not be: it is not read on, so that no text makes many calls in one another.
	if r.depth == api.MaxDepth {
		return false
	}
	r.depth++
	r.pass(blanks)
	if !r.took(end) {
		for more := true; more; more = r.took(",") {
			if !one() {
				return false
			}
		}
		if !r.took(end) {
			return false
		}
	}
	r.depth--
	return true
}

// number reads a number.
func (r *reader) number() (api.Value, bool) {
	first := r.at
	r.pass(numeric)
	n, e := digits.Parse(r.s[first:r.at])
	return api.Value{Kind: api.KindInt, Int: n}, e == api.OK
}

// text reads a string behind the quote that it begins with, and tells what it says.
func (r *reader) text() (string, bool) {
	var said []byte
bytes:
	for r.at < len(r.s) {
		b := r.s[r.at]
		switch {
		case r.took(quote):
			return string(said), true
		case r.took(escape):
			more, ok := r.escaped()
			if !ok {
				break bytes
			}
			said = append(said, more...)
		case b < firstPlain:
			break bytes
		default:
			said = append(said, b)
			r.at++
		}
	}
	return "", false
}

// escaped reads what stands behind a backslash, and tells what that says.
func (r *reader) escaped() (string, bool) {
	if r.took(coded) {
		return r.point()
	}
	if r.at == len(r.s) {
		return "", false
	}
	b, ok := r.escapes[r.s[r.at]]
	r.at++
	return string([]byte{b}), ok
}

// point reads a point's unit, or both of a pair, and tells its bytes. A surrogate that is in no pair is no point.
func (r *reader) point() (string, bool) {
	point, ok := r.unit()
	if ok && point>>halfBits == highMark && r.took(escape+coded) {
		low, isUnit := r.unit()
		ok = isUnit && low>>halfBits == lowMark
		point = firstPaired + point&halfMask<<halfBits + low&halfMask
	}
	if !ok {
		return "", false
	}
	return utf.Encode(point)
}

// unit reads the digits of a unit.
func (r *reader) unit() (int, bool) {
	rest := r.s[r.at:]
	if len(rest) < unitDigits {
		return 0, false
	}
	n, err := strconv.ParseUint(rest[:unitDigits], unitBase, unitBits)
	r.at += unitDigits
	return int(n), err == nil
}

// took goes behind a part, if that stands here.
func (r *reader) took(part string) bool {
	if !strings.HasPrefix(r.s[r.at:], part) {
		return false
	}
	r.at += len(part)
	return true
}

// pass goes behind all bytes that are some of these.
func (r *reader) pass(some string) {
	r.at = len(r.s) - len(strings.TrimLeft(r.s[r.at:], some))
}
