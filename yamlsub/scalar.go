package yamlsub

import (
	"strings"

	"vestibule/api"
	"vestibule/digits"
)

const (
	// jsonBegin are the bytes with which JSON begins that is no plain scalar.
	jsonBegin = `"[{`
	// single stands at both ends of a text, and twice for one of its own.
	single = "'"
	double = single + single
	// noPlain are the bytes with which no plain scalar begins.
	noPlain = ",]}#&*!|>%@?:`"
)

// unquoted is the text that stands in single quotes.
func unquoted(s string) (api.Value, bool) {
	inside, begun := strings.CutPrefix(s, single)
	inside, closed := strings.CutSuffix(inside, single)
	if !begun || !closed || strings.Contains(strings.ReplaceAll(inside, double, ""), single) {
		return api.Value{}, false
	}
	return textValue(strings.ReplaceAll(inside, double, single)), true
}

// plain is the value of a text that stands without quotes.
func plain(s string) (api.Value, bool) {
	if !isPlain(s) {
		return api.Value{}, false
	}
	switch s {
	case "null", "~":
		return api.Value{Kind: api.KindNull}, true
	case "true":
		return api.Value{Kind: api.KindBool, Int: 1}, true
	case "false":
		return api.Value{Kind: api.KindBool}, true
	}
	if n, e := digits.Parse(s); e == api.OK {
		return api.Value{Kind: api.KindInt, Int: n}, true
	}
	return textValue(s), true
}

// isPlain tells whether a text may stand without quotes.
func isPlain(s string) bool {
	_, item := behind(s, dash)
	switch {
	case s == "", item, begins(s, noPlain),
		strings.Contains(s, colon+space), strings.Contains(s, space+remark), strings.HasSuffix(s, colon):
		return false
	}
	return true
}

// begins tells whether a text begins with one of these bytes.
func begins(s, some string) bool {
	return s != "" && strings.Contains(some, s[:1])
}

// textValue is a text as a value, in new memory.
func textValue(s string) api.Value {
	return api.Value{Kind: api.KindText, Text: strings.Clone(s)}
}
