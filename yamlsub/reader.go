package yamlsub

import (
	"strings"

	"vestibule/api"
	"vestibule/jsonval"
)

const (
	space = " "
	// remark begins the text of a line that is passed over.
	remark = "#"
	// dash begins each item of a list.
	dash = "-"
	// colon stands behind the key of each field of a map.
	colon = ":"
	// bar stands for a value that is a literal text.
	bar = "|"
	// keyBytes are those of a key that is no string.
	keyBytes = "abcdefghijklmnopqrstuvwxyzABCDEFGHIJKLMNOPQRSTUVWXYZ0123456789_./-"
)

// ended is the indent of what stands behind the last line: it is less than all others, so that it ends all blocks.
const ended = -1

// line is a line that is not passed over, or, of an item, what stands in one from its place on.
type line struct {
	indent int
	text   string
}

// reader goes over a document's lines: those ahead of at are read. depth is in how many blocks it is.
type reader struct {
	lines     []string
	at, depth int
}

// next is the line that is read next; those ahead of it are passed over.
func (r *reader) next() line {
	for ; r.at < len(r.lines); r.at++ {
		whole := r.lines[r.at]
		text := strings.Trim(whole, space)
		if text != "" && !strings.HasPrefix(text, remark) {
			return line{spaces(whole), text}
		}
	}
	return line{indent: ended}
}

// block reads the block that begins at a line.
func (r *reader) block(first line) (api.Value, bool) {
	// A value so deep may not be: it is not read on, so that no text makes many calls in one another.
	if r.depth == api.MaxDepth {
		return api.Value{}, false
	}
	r.depth++
	v, ok := r.value(first)
	r.depth--
	return v, ok
}

// value reads the list, map or scalar that begins at a line.
func (r *reader) value(first line) (api.Value, bool) {
	if _, is := behind(first.text, dash); is {
		return r.list(first)
	}
	if _, _, is := keyed(first.text); is {
		return r.fields(first)
	}
	r.at++
	return Scalar(first.text)
}

// list reads a list.
func (r *reader) list(first line) (api.Value, bool) {
	v := api.Value{Kind: api.KindList}
	ok := r.all(first, func(l line) bool {
		x, ok := r.item(l)
		v.List = append(v.List, x)
		return ok
	})
	return v, ok
}

// fields reads a map.
func (r *reader) fields(first line) (api.Value, bool) {
	v := api.Value{Kind: api.KindMap}
	ok := r.all(first, func(l line) bool {
		f, ok := r.field(l)
		v.Fields = append(v.Fields, f)
		return ok
	})
	return v, ok
}

// all goes through the lines of a list or map: one reads what begins at each, and tells whether that is of its kind.
func (r *reader) all(first line, one func(l line) bool) bool {
	l := first
lines:
	for {
		switch {
		case l.indent < first.indent:
			break lines
		case l.indent > first.indent, !one(l):
			return false
		}
		l = r.next()
	}
	return true
}

// item reads an item of a list.
func (r *reader) item(l line) (api.Value, bool) {
	text, ok := behind(l.text, dash)
	if !ok {
		return api.Value{}, false
	}
	if text == "" {
		r.at++
		return r.below(l.indent)
	}
	return r.block(line{l.indent + len(l.text) - len(text), text})
}

// field reads a field of a map.
func (r *reader) field(l line) (api.Field, bool) {
	key, text, ok := keyed(l.text)
	if !ok {
		return api.Field{}, false
	}
	r.at++
	v, ok := r.under(l.indent, text)
	return api.Field{Key: key, Value: v}, ok
}

// under reads the value of a field, in a map of that indent, behind whose colon that text stands.
func (r *reader) under(indent int, text string) (api.Value, bool) {
	switch text {
	case "":
		return r.below(indent)
	case bar:
		s, ok := r.literal(indent)
		return textValue(s), ok
	}
	return Scalar(text)
}

// below reads the block at the next line, if that has a greater indent; else it is nothing.
func (r *reader) below(indent int) (api.Value, bool) {
	first := r.next()
	if first.indent <= indent {
		return api.Value{Kind: api.KindNull}, true
	}
	return r.block(first)
}

// literal reads the lines of a literal text, in a map of that indent.
func (r *reader) literal(indent int) (string, bool) {
	lines := r.within(indent)
	margin := ended
	for _, s := range lines {
		if isBlank(s) {
			continue
		}
		if margin == ended {
			margin = spaces(s)
		}
		if spaces(s) < margin {
			return "", false
		}
	}
	var b strings.Builder
	for _, s := range lines {
		b.WriteString(s[min(margin, len(s)):])
		b.WriteString(lineEnd)
	}
	return b.String(), true
}

// within goes behind all lines of a greater indent, and those between them that are blank, and tells them.
func (r *reader) within(indent int) []string {
	rest := r.lines[r.at:]
	n := 0
	for i, s := range rest {
		if isBlank(s) {
			continue
		}
		if spaces(s) <= indent {
			break
		}
		n = i + 1
	}
	r.at += n
	return rest[:n]
}

// isBlank tells whether a line has nothing but spaces.
func isBlank(s string) bool {
	return spaces(s) == len(s)
}

// spaces is how many spaces a line begins with.
func spaces(s string) int {
	return len(s) - len(strings.TrimLeft(s, space))
}

// keyed are the key of a map's line, and what stands behind the colon and its spaces; false, if the line is of no map.
func keyed(s string) (key, text string, is bool) {
	key, n, is := jsonval.Unquote(s)
	if !is {
		n = len(s) - len(strings.TrimLeft(s, keyBytes))
		key = strings.Clone(s[:n])
	}
	text, is = behind(s[n:], colon)
	if n == 0 || !is {
		return "", "", false
	}
	return key, text, true
}

// behind is what stands behind a sign and its spaces; false, if a line doesn't begin with the sign, or something else stands right behind it.
func behind(s, sign string) (string, bool) {
	rest, is := strings.CutPrefix(s, sign)
	text := strings.TrimLeft(rest, space)
	if !is || rest != "" && text == rest {
		return "", false
	}
	return text, true
}
