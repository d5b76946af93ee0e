package jsonval

import (
	"strconv"
	"strings"

	"vestibule/api"
	"vestibule/digits"
)

const (
	// hex are the digits of a byte that has no letter of its own.
	hex = "0123456789abcdef"
	// codedByte stands ahead of these.
	codedByte = escape + coded + "00"
)

// writer writes values. letters are the bytes that are written as a backslash and a letter.
type writer struct {
	strings.Builder
	letters map[byte]byte
}

func newWriter() *writer {
	letters := map[byte]byte{}
	for letter, b := range escapes() {
		letters[b] = letter
	}
	// A slash is read so, but needs it not.
	delete(letters, '/')
	return &writer{letters: letters}
}

// value writes a value, its fields as they stand.
func (w *writer) value(v api.Value) {
	switch v.Kind {
	case api.KindBool:
		w.WriteString(strconv.FormatBool(v.Int != 0))
	case api.KindInt:
		w.WriteString(digits.Text(v.Int))
	case api.KindText:
		w.quoted(v.Text)
	case api.KindList:
		w.all("[", len(v.List), func(i int) { w.value(v.List[i]) }, "]")
	case api.KindMap:
		w.all("{", len(v.Fields), func(i int) { w.field(v.Fields[i]) }, "}")
	default:
		w.WriteString("null")
	}
}

// field writes a field of a map.
func (w *writer) field(f api.Field) {
	w.quoted(f.Key)
	w.WriteString(":")
	w.value(f.Value)
}

// all writes n parts between two brackets, with a comma between two each.
func (w *writer) all(begin string, n int, part func(i int), end string) {
	w.WriteString(begin)
	for i := range n {
		if i > 0 {
			w.WriteString(",")
		}
		part(i)
	}
	w.WriteString(end)
}

// quoted writes a string.
func (w *writer) quoted(s string) {
	w.WriteString(quote)
	for _, b := range []byte(s) {
		letter, lettered := w.letters[b]
		switch {
		case lettered:
			w.WriteString(escape)
			w.WriteByte(letter)
		case b < firstPlain:
			w.WriteString(codedByte)
			w.WriteByte(hex[b>>4])
			w.WriteByte(hex[b&0xf])
		default:
			w.WriteByte(b)
		}
	}
	w.WriteString(quote)
}
