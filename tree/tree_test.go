package tree_test

import (
	"encoding/json"
	"math"
	"math/rand"
	"slices"
	"sort"
	"strconv"
	"strings"
	"testing"
	"unicode/utf8"

	"vestibule/api"
	"vestibule/tree"
)

// Values, and rows, written short.

func null() api.Value                         { return api.Value{} }
func boolean(n int64) api.Value               { return api.Value{Kind: api.KindBool, Int: n} }
func number(n int64) api.Value                { return api.Value{Kind: api.KindInt, Int: n} }
func text(s string) api.Value                 { return api.Value{Kind: api.KindText, Text: s} }
func field(key string, v api.Value) api.Field { return api.Field{Key: key, Value: v} }

func list(l ...api.Value) api.Value { return api.Value{Kind: api.KindList, List: l} }

func fields(l ...api.Field) api.Value { return api.Value{Kind: api.KindMap, Fields: l} }

// keyed is a map with numbers under these keys: 1, 2, and so on.
func keyed(keys ...string) api.Value {
	v := fields()
	for i, key := range keys {
		v.Fields = append(v.Fields, field(key, number(int64(i+1))))
	}
	return v
}

func item(depth int, key string, v api.Value) api.Item {
	return api.Item{Depth: depth, Key: key, Kind: v.Kind, Int: v.Int, Text: v.Text}
}

func row(l ...api.Item) []api.Item { return l }

// in is v in lists, so many of them.
func in(v api.Value, n int) api.Value {
	for range n {
		v = list(v)
	}
	return v
}

// inMaps is v in maps, so many of them.
func inMaps(v api.Value, n int) api.Value {
	for range n {
		v = fields(field("k", v))
	}
	return v
}

// many are n values that are nothing.
func many(n int) []api.Value { return make([]api.Value, n) }

// told is a value as a text; a list that is nil is as one that is empty. Texts that are not valid stay apart from each other.
func told(v api.Value) string {
	var b strings.Builder
	b.WriteString(strconv.Itoa(v.Kind) + " " + strconv.FormatInt(v.Int, 10) + " " + strconv.Quote(v.Text))
	if len(v.List) > 0 {
		b.WriteString(" [")
		for _, x := range v.List {
			b.WriteString("(" + told(x) + ")")
		}
		b.WriteString("]")
	}
	if len(v.Fields) > 0 {
		b.WriteString(" {")
		for _, f := range v.Fields {
			b.WriteString(strconv.Quote(f.Key) + ":(" + told(f.Value) + ")")
		}
		b.WriteString("}")
	}
	return b.String()
}

// toldRow is a row as a text.
func toldRow(l []api.Item) string {
	var b strings.Builder
	for _, x := range l {
		b.WriteString("(" + strconv.Itoa(x.Depth) + " " + strconv.Itoa(x.Kind) + " " + strconv.FormatInt(x.Int, 10) + " " + strconv.Quote(x.Key) + " " + strconv.Quote(x.Text) + ")")
	}
	return b.String()
}

// short cuts what a failed test tells.
func short(s string) string {
	if len(s) > 300 {
		return s[:300] + ".."
	}
	return s
}

// isValue holds a value against what is written here.
func isValue(t *testing.T, call string, got, want api.Value) {
	t.Helper()
	if g, w := told(got), told(want); g != w {
		t.Errorf("%s: %s, want %s", call, short(g), short(w))
	}
}

// isSo holds a yes or no against what is written here.
func isSo(t *testing.T, call string, got, want bool) {
	t.Helper()
	if got != want {
		t.Errorf("%s: %v, want %v", short(call), got, want)
	}
}

// makes holds Make of a row against what is written here.
func makes(t *testing.T, l []api.Item, want api.Value) {
	t.Helper()
	got, ok := tree.Make(l)
	isSo(t, "Make("+toldRow(l)+")", ok, true)
	isValue(t, "Make("+short(toldRow(l))+")", got, want)
}

// makesNone holds Make of a row that no value has, or none that may be.
func makesNone(t *testing.T, l []api.Item) {
	t.Helper()
	got, ok := tree.Make(l)
	isSo(t, "Make("+toldRow(l)+")", ok, false)
	isValue(t, "Make("+short(toldRow(l))+")", got, null())
}

// ordinary are values that may be, with their rows, depths and counts.
var ordinary = []struct {
	v            api.Value
	row          []api.Item
	depth, count int
}{
	{null(), row(item(0, "", null())), 1, 1},
	{boolean(0), row(item(0, "", boolean(0))), 1, 1},
	{boolean(1), row(item(0, "", boolean(1))), 1, 1},
	{number(0), row(item(0, "", number(0))), 1, 1},
	{number(-1), row(item(0, "", number(-1))), 1, 1},
	{number(math.MaxInt64), row(item(0, "", number(math.MaxInt64))), 1, 1},
	{number(math.MinInt64), row(item(0, "", number(math.MinInt64))), 1, 1},
	{text(""), row(item(0, "", text(""))), 1, 1},
	{text("abc"), row(item(0, "", text("abc"))), 1, 1},
	{text("\xc3\xa9\x00"), row(item(0, "", text("\xc3\xa9\x00"))), 1, 1},
	{list(), row(item(0, "", list())), 1, 1},
	{fields(), row(item(0, "", fields())), 1, 1},
	{list(null()), row(item(0, "", list()), item(1, "", null())), 2, 2},
	{list(number(1), text("x"), boolean(1)), row(item(0, "", list()), item(1, "", number(1)), item(1, "", text("x")), item(1, "", boolean(1))), 2, 4},
	{list(list(), list(), fields()), row(item(0, "", list()), item(1, "", list()), item(1, "", list()), item(1, "", fields())), 2, 4},
	{list(list(number(1)), number(2)), row(item(0, "", list()), item(1, "", list()), item(2, "", number(1)), item(1, "", number(2))), 3, 4},
	{list(number(1), list(number(2))), row(item(0, "", list()), item(1, "", number(1)), item(1, "", list()), item(2, "", number(2))), 3, 4},
	{list(list(list(number(1))), number(2)), row(item(0, "", list()), item(1, "", list()), item(2, "", list()), item(3, "", number(1)), item(1, "", number(2))), 4, 5},
	{fields(field("a", number(5))), row(item(0, "", fields()), item(1, "a", number(5))), 2, 2},
	{fields(field("", null())), row(item(0, "", fields()), item(1, "", null())), 2, 2},
	{keyed("b", "a", ""), row(item(0, "", fields()), item(1, "b", number(1)), item(1, "a", number(2)), item(1, "", number(3))), 2, 4},
	{fields(field("a", list(number(1), fields(field("a", text("a"))))), field("b", null())),
		row(item(0, "", fields()), item(1, "a", list()), item(2, "", number(1)), item(2, "", fields()), item(3, "a", text("a")), item(1, "b", null())), 4, 6},
	{fields(field("x", keyed("x")), field("y", keyed("x"))),
		row(item(0, "", fields()), item(1, "x", fields()), item(2, "x", number(1)), item(1, "y", fields()), item(2, "x", number(1))), 3, 5},
	{list(keyed("a"), keyed("a")), row(item(0, "", list()), item(1, "", fields()), item(2, "a", number(1)), item(1, "", fields()), item(2, "a", number(1))), 3, 5},
	{fields(field("\xc3\xa9", text("\xf0\x9f\x98\x80"))), row(item(0, "", fields()), item(1, "\xc3\xa9", text("\xf0\x9f\x98\x80"))), 2, 2},
	{fields(field("a", fields()), field("b", list())), row(item(0, "", fields()), item(1, "a", fields()), item(1, "b", list())), 2, 3},
}

// TestOrdinary is of P4.1, P4.2 and P4.4: values that may be, their rows, and what these make.
func TestOrdinary(t *testing.T) {
	for _, w := range ordinary {
		if got, want := toldRow(tree.Row(w.v)), toldRow(w.row); got != want {
			t.Errorf("Row(%s): %s, want %s", told(w.v), got, want)
		}
		makes(t, w.row, w.v)
		isSo(t, "Check("+told(w.v)+")", tree.Check(w.v), true)
		if got := tree.Depth(w.v); got != w.depth {
			t.Errorf("Depth(%s): %d, want %d", told(w.v), got, w.depth)
		}
		if got := tree.Count(w.v); got != w.count {
			t.Errorf("Count(%s): %d, want %d", told(w.v), got, w.count)
		}
	}
}

// TestExample is of P4.1 and P4.3: the document's own.
func TestExample(t *testing.T) {
	v, ok := tree.Make([]api.Item{{Depth: 0, Kind: api.KindMap}, {Depth: 1, Kind: api.KindInt, Int: 5, Key: "a"}})
	isSo(t, "Make", ok, true)
	got, ok := tree.Get(v, "a")
	isSo(t, "Get a", ok, true)
	isValue(t, "Get a", got, number(5))
}

// TestMakeNone is of P4.1: rows that no value has.
func TestMakeNone(t *testing.T) {
	one := number(1)
	for _, l := range [][]api.Item{
		// no items at all
		nil,
		row(),
		// a first one that is not at depth 0
		row(item(1, "", null())),
		row(item(-1, "", null())),
		row(item(2, "", list())),
		row(item(math.MaxInt, "", null())),
		row(item(math.MinInt, "", null())),
		row(item(1, "", list()), item(2, "", one)),
		row(item(-1, "", list()), item(0, "", one)),
		row(item(1, "", list()), item(0, "", list())),
		// another one that is at depth 0
		row(item(0, "", null()), item(0, "", null())),
		row(item(0, "", list()), item(0, "", null())),
		row(item(0, "", fields()), item(0, "", null())),
		row(item(0, "", fields()), item(0, "a", null())),
		row(item(0, "", list()), item(1, "", one), item(0, "", one)),
		row(item(0, "", list()), item(1, "", list()), item(2, "", one), item(0, "", list()), item(1, "", one)),
		// two deeper than the one ahead, or below 0
		row(item(0, "", list()), item(2, "", one)),
		row(item(0, "", fields()), item(2, "a", one)),
		row(item(0, "", list()), item(3, "", one)),
		row(item(0, "", list()), item(math.MaxInt, "", one)),
		row(item(0, "", list()), item(1, "", list()), item(3, "", one)),
		row(item(0, "", list()), item(1, "", list()), item(2, "", one), item(1, "", list()), item(3, "", one)),
		row(item(0, "", fields()), item(1, "a", list()), item(3, "", one)),
		row(item(0, "", list()), item(1, "", one), item(3, "", one)),
		row(item(0, "", list()), item(-1, "", one)),
		row(item(0, "", list()), item(1, "", one), item(-1, "", one)),
		row(item(0, "", list()), item(math.MinInt, "", one)),
		// in one that is no list or map
		row(item(0, "", null()), item(1, "", one)),
		row(item(0, "", boolean(0)), item(1, "", one)),
		row(item(0, "", boolean(1)), item(1, "", one)),
		row(item(0, "", number(0)), item(1, "", one)),
		row(item(0, "", number(1)), item(1, "", one)),
		row(item(0, "", text("")), item(1, "", one)),
		row(item(0, "", text("x")), item(1, "", one)),
		row(item(0, "", null()), item(1, "a", one)),
		row(item(0, "", text("x")), item(1, "a", one)),
		row(item(0, "", list()), item(1, "", null()), item(2, "", one)),
		row(item(0, "", list()), item(1, "", text("x")), item(2, "", one)),
		row(item(0, "", list()), item(1, "", one), item(2, "", one), item(1, "", one)),
		row(item(0, "", fields()), item(1, "a", one), item(2, "a", one)),
		row(item(0, "", fields()), item(1, "a", boolean(1)), item(2, "", one), item(1, "b", one)),
		// keys of items that stand in no map
		row(item(0, "a", null())),
		row(item(0, "a", fields())),
		row(item(0, "a", list())),
		row(item(0, " ", text("x"))),
		row(item(0, "a", fields()), item(1, "a", one)),
		row(item(0, "", list()), item(1, "a", one)),
		row(item(0, "", list()), item(1, "", one), item(1, "a", one)),
		row(item(0, "", list()), item(1, "a", one), item(1, "", one)),
		row(item(0, "", list()), item(1, "a", fields())),
		row(item(0, "", fields()), item(1, "a", list()), item(2, "b", one)),
		row(item(0, "", list()), item(1, "", list()), item(2, "a", one)),
		row(item(0, "", list()), item(1, "", fields()), item(2, "a", one), item(1, "b", one)),
	} {
		makesNone(t, l)
	}
}

// mayNot are values that may not be, but have rows that are of no other form.
var mayNot = []api.Value{
	{Kind: 6}, {Kind: -1}, {Kind: 7}, {Kind: math.MaxInt}, {Kind: math.MinInt}, {Kind: 6, Int: 1}, {Kind: -1, Text: "x"},
	boolean(2), boolean(-1), boolean(3), boolean(256), boolean(math.MaxInt64), boolean(math.MinInt64), boolean(1 << 32),
	{Kind: api.KindNull, Int: 1}, {Kind: api.KindNull, Int: -1}, {Kind: api.KindNull, Text: "x"}, {Kind: api.KindNull, Text: "\xff"},
	{Kind: api.KindBool, Text: "x"}, {Kind: api.KindBool, Int: 1, Text: "x"}, {Kind: api.KindBool, Int: 1, Text: "true"},
	{Kind: api.KindInt, Text: "0"}, {Kind: api.KindInt, Int: 5, Text: "5"},
	{Kind: api.KindText, Int: 1}, {Kind: api.KindText, Int: -1, Text: "x"}, {Kind: api.KindText, Int: 5, Text: "5"},
	{Kind: api.KindList, Int: 1}, {Kind: api.KindList, Text: "x"}, {Kind: api.KindList, Int: 1, List: []api.Value{number(1)}},
	{Kind: api.KindMap, Int: 1}, {Kind: api.KindMap, Text: "x"}, {Kind: api.KindMap, Text: "x", Fields: []api.Field{field("a", number(1))}},
	text("\xff"), text("a\x80"), text("\xc3"), text("\xed\xa0\x80"), text("\xc0\x80"), text("\xf4\x90\x80\x80"),
	keyed("\xff"), keyed("a", "b\x80"), keyed("\xed\xa0\x80"), keyed("\xc0\x80"),
	keyed("a", "a"), keyed("", ""), keyed("a", "b", "a"), keyed("a", "b", "b"), keyed("b", "a", "c", "a", "d"),
	fields(field("a", null()), field("a", null())),
	fields(field("a", list()), field("b", number(1)), field("a", list())),
}

// mayNotHave are values that have something in them that their kind has no place for.
var mayNotHave = []api.Value{
	{Kind: api.KindNull, List: []api.Value{null()}},
	{Kind: api.KindNull, Fields: []api.Field{field("a", null())}},
	{Kind: api.KindBool, List: []api.Value{null()}},
	{Kind: api.KindBool, Int: 1, Fields: []api.Field{field("a", null())}},
	{Kind: api.KindInt, List: []api.Value{number(1)}},
	{Kind: api.KindInt, Int: 5, Fields: []api.Field{field("a", null())}},
	{Kind: api.KindText, List: []api.Value{text("x")}},
	{Kind: api.KindText, Text: "x", Fields: []api.Field{field("", null())}},
	{Kind: api.KindList, Fields: []api.Field{field("a", null())}},
	{Kind: api.KindList, List: []api.Value{null()}, Fields: []api.Field{field("a", null())}},
	{Kind: api.KindMap, List: []api.Value{null()}},
	{Kind: api.KindMap, List: []api.Value{null()}, Fields: []api.Field{field("a", null())}},
	{Kind: 6, List: []api.Value{null()}},
	{Kind: -1, Fields: []api.Field{field("a", null())}},
}

// TestMayNot is of P4.1 and P4.2: what may not be, alone, in lists and in maps, is not checked, and not made of its row.
func TestMayNot(t *testing.T) {
	for _, v := range mayNot {
		for _, whole := range []api.Value{v, list(v), list(null(), v), list(v, null()), fields(field("k", v)), fields(field("j", null()), field("k", v)), fields(field("k", v), field("l", null())), in(v, 3), inMaps(v, 3), list(list(), fields(field("k", list(v))))} {
			isSo(t, "Check("+told(whole)+")", tree.Check(whole), false)
			makesNone(t, plainRow(whole))
			makesNone(t, tree.Row(whole))
		}
	}
	for _, v := range mayNotHave {
		for _, whole := range []api.Value{v, list(v), list(null(), v), list(v, null()), fields(field("k", v)), fields(field("j", null()), field("k", v)), in(v, 3), inMaps(v, 3)} {
			isSo(t, "Check("+told(whole)+")", tree.Check(whole), false)
		}
	}
}

// TestEmptyLists is of P4.2 and R1: lists that are there, but empty, are as none.
func TestEmptyLists(t *testing.T) {
	for _, v := range []api.Value{null(), boolean(1), number(5), text("x"), list(), fields()} {
		bare := v
		v.List, v.Fields = []api.Value{}, []api.Field{}
		isSo(t, "Check("+told(v)+") with empty lists", tree.Check(v), true)
		isSo(t, "Same("+told(v)+") with empty lists", tree.Same(v, bare), true)
		isSo(t, "Same("+told(v)+") with empty lists", tree.Same(bare, v), true)
		isSo(t, "Same("+told(v)+") with empty lists", tree.Same(list(v), list(bare)), true)
		isValue(t, "Canon with empty lists", tree.Canon(v), bare)
		if tree.Depth(v) != 1 || tree.Count(v) != 1 || len(tree.Row(v)) != 1 {
			t.Errorf("%s with empty lists: depth %d, count %d, a row of %d", told(v), tree.Depth(v), tree.Count(v), len(tree.Row(v)))
		}
	}
}

// TestKinds is of P4.1 and P4.2: each kind there is, and those about them.
func TestKinds(t *testing.T) {
	for kind := -3; kind <= 12; kind++ {
		want := kind >= 0 && kind <= 5
		v := api.Value{Kind: kind}
		isSo(t, "Check("+told(v)+")", tree.Check(v), want)
		got, ok := tree.Make([]api.Item{{Kind: kind}})
		isSo(t, "Make of kind "+strconv.Itoa(kind), ok, want)
		if want {
			isValue(t, "Make of kind "+strconv.Itoa(kind), got, v)
		}
		_, ok = tree.Make([]api.Item{{Kind: kind}, {Depth: 1}})
		isSo(t, "Make of kind "+strconv.Itoa(kind)+" with one in it", ok, kind == 4 || kind == 5)
	}
}

// TestDepth is of P4.1 and P4.2: the last depth that may be, and the first one that may not.
func TestDepth(t *testing.T) {
	for n := 1; n <= 40; n++ {
		for _, v := range []api.Value{in(null(), n-1), in(list(), n-1), in(fields(), n-1), inMaps(text("x"), n-1), list(null(), in(null(), max(n-2, 0)), null())} {
			depth := max(n, 1)
			if n == 1 && len(v.List) == 3 {
				depth = 2
			}
			if got := tree.Depth(v); got != depth {
				t.Errorf("Depth(%s): %d, want %d", told(v), got, depth)
			}
			isSo(t, "Check("+told(v)+")", tree.Check(v), depth <= 12)
			l := plainRow(v)
			if got := toldRow(tree.Row(v)); got != toldRow(l) {
				t.Errorf("Row(%s): %s, want %s", told(v), got, toldRow(l))
			}
			if depth <= 12 {
				makes(t, l, v)
			} else {
				makesNone(t, l)
			}
		}
	}
}

// TestCount is of P4.1 and P4.2: the last count that may be, and the first one that may not.
func TestCount(t *testing.T) {
	for n := 1990; n <= 2010; n++ {
		wide := fields()
		for i := range n - 1 {
			wide.Fields = append(wide.Fields, field(strconv.Itoa(i), null()))
		}
		twice := list(list(many(n/2-1)...), list(many(n-n/2-2)...))
		for _, v := range []api.Value{list(many(n - 1)...), wide, twice, in(list(many(n-11)...), 10)} {
			if got := tree.Count(v); got != n {
				t.Errorf("Count: %d, want %d", got, n)
			}
			isSo(t, "Check of "+strconv.Itoa(n), tree.Check(v), n <= 2000)
			l := plainRow(v)
			if got := toldRow(tree.Row(v)); got != toldRow(l) {
				t.Errorf("Row of %d is not as it should be", n)
			}
			if n <= 2000 {
				makes(t, l, v)
			} else {
				makesNone(t, l)
			}
		}
	}
}

// TestDepthAndCount is of P4.2: of what has values in its lists, whatever its kind is.
func TestDepthAndCount(t *testing.T) {
	for _, w := range []struct {
		v            api.Value
		depth, count int
	}{
		{list(in(null(), 4), null()), 6, 7},
		{list(null(), in(null(), 4)), 6, 7},
		{fields(field("a", null()), field("b", in(null(), 3)), field("c", in(null(), 1))), 5, 8},
		{api.Value{Kind: api.KindText, Text: "x", List: []api.Value{null()}}, 2, 2},
		{api.Value{Kind: api.KindInt, List: []api.Value{null(), list(null())}}, 3, 4},
		{api.Value{Kind: api.KindNull, Fields: []api.Field{field("a", keyed("b"))}}, 3, 3},
		{api.Value{Kind: api.KindBool, Fields: []api.Field{field("a", null()), field("a", null())}}, 2, 3},
		{api.Value{Kind: api.KindList, Fields: []api.Field{field("a", keyed("b"))}}, 3, 3},
		{api.Value{Kind: api.KindMap, List: []api.Value{null(), list(null())}}, 3, 4},
		{api.Value{Kind: api.KindMap, List: []api.Value{in(null(), 3)}, Fields: []api.Field{field("a", null())}}, 5, 6},
		{api.Value{Kind: api.KindMap, List: []api.Value{null()}, Fields: []api.Field{field("a", in(null(), 3))}}, 5, 6},
		{api.Value{Kind: api.KindList, List: []api.Value{null()}, Fields: []api.Field{field("a", in(null(), 3))}}, 5, 6},
		{api.Value{Kind: 77, List: []api.Value{{Kind: -5, Fields: []api.Field{field("a", null())}}}}, 3, 3},
		{list(text("x"), api.Value{Kind: api.KindText, List: []api.Value{in(null(), 2)}}), 5, 6},
	} {
		if got := tree.Depth(w.v); got != w.depth {
			t.Errorf("Depth(%s): %d, want %d", told(w.v), got, w.depth)
		}
		if got := tree.Count(w.v); got != w.count {
			t.Errorf("Count(%s): %d, want %d", told(w.v), got, w.count)
		}
		if got := len(tree.Row(w.v)); got != w.count {
			t.Errorf("Row(%s) of %d, want %d", told(w.v), got, w.count)
		}
	}
}

// TestOtherRows is of P4.1: rows of values that may not be.
func TestOtherRows(t *testing.T) {
	for _, v := range mayNot {
		for _, whole := range []api.Value{v, list(v), fields(field("k", v), field("l", null()))} {
			if got, want := toldRow(tree.Row(whole)), toldRow(plainRow(whole)); got != want {
				t.Errorf("Row(%s): %s, want %s", told(whole), got, want)
			}
		}
	}
	for _, w := range []struct {
		v   api.Value
		row []api.Item
	}{
		{api.Value{Kind: api.KindText, Text: "x", List: []api.Value{number(1), list(number(2)), text("y")}},
			row(item(0, "", text("x")), item(1, "", number(1)), item(1, "", list()), item(2, "", number(2)), item(1, "", text("y")))},
		{list(api.Value{Kind: api.KindNull, List: []api.Value{number(1)}}, null()),
			row(item(0, "", list()), item(1, "", null()), item(2, "", number(1)), item(1, "", null()))},
		{api.Value{Kind: api.KindMap, List: []api.Value{number(1)}},
			row(item(0, "", fields()), item(1, "", number(1)))},
	} {
		if got, want := toldRow(tree.Row(w.v)), toldRow(w.row); got != want {
			t.Errorf("Row(%s): %s, want %s", told(w.v), got, want)
		}
	}
}

// TestCanon is of P4.2: fields in the order of their keys' bytes, at any depth, and all else as it was.
func TestCanon(t *testing.T) {
	for _, w := range []struct{ v, want api.Value }{
		{keyed("b", "a"), fields(field("a", number(2)), field("b", number(1)))},
		{keyed("a", "b"), keyed("a", "b")},
		{keyed("c", "b", "a"), fields(field("a", number(3)), field("b", number(2)), field("c", number(1)))},
		{keyed("aa", "a", "ab", "b", ""), fields(field("", number(5)), field("a", number(2)), field("aa", number(1)), field("ab", number(3)), field("b", number(4)))},
		{keyed("a\xc3\xa9", "az", "a", "aZ", "a\x00", "a10", "a9"), fields(field("a", number(3)), field("a\x00", number(5)), field("a10", number(6)), field("a9", number(7)), field("aZ", number(4)), field("az", number(2)), field("a\xc3\xa9", number(1)))},
		{keyed("\xf0\x9f\x98\x80", "\xef\xbf\xbf", "~"), fields(field("~", number(3)), field("\xef\xbf\xbf", number(2)), field("\xf0\x9f\x98\x80", number(1)))},
		{fields(field("b", keyed("z", "y")), field("a", keyed("z", "x"))), fields(field("a", fields(field("x", number(2)), field("z", number(1)))), field("b", fields(field("y", number(2)), field("z", number(1)))))},
		{list(keyed("b", "a"), number(3), keyed("d", "c")), list(fields(field("a", number(2)), field("b", number(1))), number(3), fields(field("c", number(2)), field("d", number(1))))},
		{list(number(2), number(1), text("b"), text("a")), list(number(2), number(1), text("b"), text("a"))},
		{in(keyed("b", "a"), 20), in(fields(field("a", number(2)), field("b", number(1))), 20)},
		{inMaps(keyed("b", "a"), 20), inMaps(fields(field("a", number(2)), field("b", number(1))), 20)},
		{fields(field("b", list(keyed("d", "c"))), field("a", null())), fields(field("a", null()), field("b", list(fields(field("c", number(2)), field("d", number(1))))))},
		// what may not be
		{api.Value{Kind: api.KindText, Text: "x", List: []api.Value{number(2), number(1), keyed("b", "a")}}, api.Value{Kind: api.KindText, Text: "x", List: []api.Value{number(2), number(1), fields(field("a", number(2)), field("b", number(1)))}}},
		{api.Value{Kind: api.KindInt, Int: 7, Text: "x", Fields: []api.Field{field("k", keyed("b", "a"))}}, api.Value{Kind: api.KindInt, Int: 7, Text: "x", Fields: []api.Field{field("k", fields(field("a", number(2)), field("b", number(1))))}}},
		{api.Value{Kind: api.KindMap, Int: 3, Text: "x", List: []api.Value{number(2), number(1)}, Fields: []api.Field{field("b", null()), field("a", null())}}, api.Value{Kind: api.KindMap, Int: 3, Text: "x", List: []api.Value{number(2), number(1)}, Fields: []api.Field{field("a", null()), field("b", null())}}},
		{keyed("\xff", "\x80", "z"), fields(field("z", number(3)), field("\x80", number(2)), field("\xff", number(1)))},
		{fields(field("b", boolean(2)), field("a", api.Value{Kind: 9})), fields(field("a", api.Value{Kind: 9}), field("b", boolean(2)))},
	} {
		isValue(t, "Canon("+told(w.v)+")", tree.Canon(w.v), w.want)
		isValue(t, "Canon of the canonical "+told(w.want), tree.Canon(w.want), w.want)
	}
	for _, w := range ordinary {
		isValue(t, "Canon("+told(w.v)+")", tree.Canon(w.v), sorted(w.v))
	}
	for _, v := range append(mayNot, mayNotHave...) {
		if tree.Count(tree.Canon(v)) != tree.Count(v) {
			t.Errorf("Canon(%s) lost something: %s", told(v), told(tree.Canon(v)))
		}
	}
}

// TestSameValues is of P4.2: what is the same, and what is not.
func TestSameValues(t *testing.T) {
	all := []api.Value{
		null(), boolean(0), boolean(1), number(0), number(1), number(-1), text(""), text("0"), text("x"), text("X"), list(), fields(),
		list(null()), list(list()), list(number(1)), list(number(1), number(2)), list(number(2), number(1)), list(text("1")), list(number(1), number(1)),
		keyed("a"), keyed("b"), keyed(""), keyed("a", "b"), keyed("b", "a"), keyed("a", "b", "c"), fields(field("a", number(2))), fields(field("a", null())), fields(field("a", keyed("a"))), fields(field("a", list(number(1)))),
		list(keyed("a", "b")), list(keyed("b", "a")),
		boolean(2), {Kind: api.KindNull, Int: 1}, {Kind: api.KindNull, Text: "x"}, {Kind: api.KindInt, Int: 1, Text: "x"}, {Kind: 6}, {Kind: 7}, {Kind: -1}, text("\xff"), text("\xfe"), text("\xef\xbf\xbd"), keyed("\xff"), keyed("\xef\xbf\xbd"),
	}
	all = append(all, mayNotHave...)
	for i, a := range all {
		for j, b := range all {
			isSo(t, "Same("+told(a)+", "+told(b)+")", tree.Same(a, b), i == j)
			isSo(t, "Same of lists of "+told(a)+" and "+told(b), tree.Same(list(a), list(b)), i == j)
			isSo(t, "Same of maps of "+told(a)+" and "+told(b), tree.Same(fields(field("k", a), field("j", null())), fields(field("j", null()), field("k", b))), i == j)
		}
	}
	one := fields(field("b", list(keyed("b", "a"), number(1))), field("a", keyed("ab", "a", "b")), field("aa", null()))
	other := fields(field("aa", null()), field("a", fields(field("b", number(3)), field("a", number(2)), field("ab", number(1)))), field("b", list(fields(field("a", number(2)), field("b", number(1))), number(1))))
	isSo(t, "Same, in another order at each depth", tree.Same(one, other), true)
	isSo(t, "Same, in another order at each depth", tree.Same(other, one), true)
	far := tree.Put(other, "aa", boolean(0))
	isSo(t, "Same, with another value", tree.Same(one, far), false)
}

// TestGet is of P4.3: values under keys.
func TestGet(t *testing.T) {
	deep := fields(field("a", fields(field("b", fields(field("c", number(7)))), field("", text("e")))), field("l", list(keyed("a"))), field("n", null()), field("t", text("x")), field("aa", number(9)), field("", keyed("")))
	other := api.Value{Kind: api.KindList, Fields: []api.Field{field("a", number(1))}}
	for _, w := range []struct {
		v    api.Value
		keys []string
		want api.Value
		ok   bool
	}{
		{deep, nil, deep, true},
		{deep, []string{}, deep, true},
		{number(5), nil, number(5), true},
		{null(), nil, null(), true},
		{boolean(2), nil, boolean(2), true},
		{list(number(1)), nil, list(number(1)), true},
		{deep, []string{"aa"}, number(9), true},
		{deep, []string{"n"}, null(), true},
		{deep, []string{"l"}, list(keyed("a")), true},
		{deep, []string{"a"}, deep.Fields[0].Value, true},
		{deep, []string{"a", "b"}, keyed7(), true},
		{deep, []string{"a", "b", "c"}, number(7), true},
		{deep, []string{"a", ""}, text("e"), true},
		{deep, []string{""}, keyed(""), true},
		{deep, []string{"", ""}, number(1), true},
		{deep, []string{"", "", ""}, null(), false},
		{deep, []string{"b"}, null(), false},
		{deep, []string{"A"}, null(), false},
		{deep, []string{"aaa"}, null(), false},
		{deep, []string{"a", "c"}, null(), false},
		{deep, []string{"b", "a"}, null(), false},
		{deep, []string{"c"}, null(), false},
		{deep, []string{"z", "a"}, null(), false},
		{deep, []string{"a", "z", "c"}, null(), false},
		{deep, []string{"a", "b", "c", "d"}, null(), false},
		{deep, []string{"aa", "a"}, null(), false},
		{deep, []string{"n", "a"}, null(), false},
		{deep, []string{"t", "x"}, null(), false},
		{deep, []string{"l", "a"}, null(), false},
		{deep, []string{"l", ""}, null(), false},
		{deep, []string{"l", "0", "a"}, null(), false},
		{keyed(), []string{"a"}, null(), false},
		{keyed(), []string{""}, null(), false},
		{keyed("a"), []string{""}, null(), false},
		{null(), []string{"a"}, null(), false},
		{null(), []string{""}, null(), false},
		{boolean(1), []string{""}, null(), false},
		{number(1), []string{"1"}, null(), false},
		{text("x"), []string{"x"}, null(), false},
		{list(), []string{""}, null(), false},
		{list(keyed("a")), []string{"a"}, null(), false},
		{other, []string{"a"}, null(), false},
		{fields(field("o", other)), []string{"o", "a"}, null(), false},
		{keyed("\xff"), []string{"\xff"}, number(1), true},
		{keyed("\xff"), []string{"\xef\xbf\xbd"}, null(), false},
	} {
		got, ok := tree.Get(w.v, w.keys...)
		call := "Get(" + told(w.v) + ", " + strings.Join(w.keys, ", ") + ")"
		isSo(t, call, ok, w.ok)
		isValue(t, call, got, w.want)
	}
}

// keyed7 is what stands under a and b in the test of Get.
func keyed7() api.Value { return fields(field("c", number(7))) }

// TestPutAndDropOther is of P4.3: what is no map is told as it is, even if it has fields.
func TestPutAndDropOther(t *testing.T) {
	for _, v := range []api.Value{null(), boolean(1), number(5), text("x"), text("a"), list(), list(keyed("a")), mayNotHave[1], mayNotHave[8], mayNotHave[9], mayNotHave[13], {Kind: 6}, {Kind: -1}} {
		for _, key := range []string{"a", "b", "", "x"} {
			isValue(t, "Put("+told(v)+", "+key+")", tree.Put(v, key, number(1)), v)
			isValue(t, "Drop("+told(v)+", "+key+")", tree.Drop(v, key), v)
		}
	}
}

// TestPut is of P4.3: at its place, or at the end.
func TestPut(t *testing.T) {
	x := list(text("x"))
	for _, w := range []struct {
		v    api.Value
		key  string
		want api.Value
	}{
		{fields(), "a", fields(field("a", x))},
		{fields(), "", fields(field("", x))},
		{keyed("a", "b", "c"), "a", fields(field("a", x), field("b", number(2)), field("c", number(3)))},
		{keyed("a", "b", "c"), "b", fields(field("a", number(1)), field("b", x), field("c", number(3)))},
		{keyed("a", "b", "c"), "c", fields(field("a", number(1)), field("b", number(2)), field("c", x))},
		{keyed("c", "b", "a"), "b", fields(field("c", number(1)), field("b", x), field("a", number(3)))},
		{keyed("b", "c"), "a", fields(field("b", number(1)), field("c", number(2)), field("a", x))},
		{keyed("b", "c"), "", fields(field("b", number(1)), field("c", number(2)), field("", x))},
		{keyed("", "c"), "", fields(field("", x), field("c", number(2)))},
		{keyed("ab", "abc"), "a", fields(field("ab", number(1)), field("abc", number(2)), field("a", x))},
		{keyed("a"), "A", fields(field("a", number(1)), field("A", x))},
		{fields(field("k", keyed("a"))), "a", fields(field("k", keyed("a")), field("a", x))},
		{keyed("a"), "\xff", fields(field("a", number(1)), field("\xff", x))},
		{api.Value{Kind: api.KindMap, Int: 4, Text: "x", List: []api.Value{null()}}, "a", api.Value{Kind: api.KindMap, Int: 4, Text: "x", List: []api.Value{null()}, Fields: []api.Field{field("a", x)}}},
	} {
		isValue(t, "Put("+told(w.v)+", "+w.key+")", tree.Put(w.v, w.key, x), w.want)
	}
	isValue(t, "Put what may not be", tree.Put(keyed("a"), "a", boolean(2)), fields(field("a", boolean(2))))
	isValue(t, "Put nothing", tree.Put(keyed("a", "b"), "a", null()), fields(field("a", null()), field("b", number(2))))
	own := keyed("a")
	isValue(t, "Put into itself", tree.Put(own, "b", own), fields(field("a", number(1)), field("b", keyed("a"))))
}

// TestDrop is of P4.3: the map without a key.
func TestDrop(t *testing.T) {
	for _, w := range []struct {
		v    api.Value
		key  string
		want api.Value
	}{
		{fields(), "a", fields()},
		{fields(), "", fields()},
		{keyed("a"), "a", fields()},
		{keyed(""), "", fields()},
		{keyed("a"), "", keyed("a")},
		{keyed("a"), "b", keyed("a")},
		{keyed("a", "b", "c"), "a", fields(field("b", number(2)), field("c", number(3)))},
		{keyed("a", "b", "c"), "b", fields(field("a", number(1)), field("c", number(3)))},
		{keyed("a", "b", "c"), "c", fields(field("a", number(1)), field("b", number(2)))},
		{keyed("c", "a", "b"), "a", fields(field("c", number(1)), field("b", number(3)))},
		{keyed("a", "aa", "aaa"), "aa", fields(field("a", number(1)), field("aaa", number(3)))},
		{keyed("a", "b"), "A", keyed("a", "b")},
		{fields(field("k", keyed("a"))), "a", fields(field("k", keyed("a")))},
		{keyed("a", "\xff"), "\xff", keyed("a")},
		{api.Value{Kind: api.KindMap, Int: 4, Text: "x", List: []api.Value{null()}, Fields: []api.Field{field("a", null())}}, "a", api.Value{Kind: api.KindMap, Int: 4, Text: "x", List: []api.Value{null()}}},
	} {
		isValue(t, "Drop("+told(w.v)+", "+w.key+")", tree.Drop(w.v, w.key), w.want)
	}
}

// TestTexts is of P4.3: of lists of texts, and of nothing.
func TestTexts(t *testing.T) {
	for _, w := range []struct {
		v    api.Value
		want []string
		ok   bool
	}{
		{list(), nil, true},
		{null(), nil, true},
		{list(text("a")), []string{"a"}, true},
		{list(text("b"), text("a"), text(""), text("b")), []string{"b", "a", "", "b"}, true},
		{list(text("\xc3\xa9")), []string{"\xc3\xa9"}, true},
		{list(null()), nil, false},
		{list(number(1)), nil, false},
		{list(text("a"), null()), nil, false},
		{list(null(), text("a")), nil, false},
		{list(text("a"), number(1), text("b")), nil, false},
		{list(text("a"), boolean(1)), nil, false},
		{list(list(text("a"))), nil, false},
		{list(text("a"), list(text("b"))), nil, false},
		{list(text("a"), fields()), nil, false},
		{list(keyed("a")), nil, false},
		{boolean(0), nil, false},
		{boolean(1), nil, false},
		{number(0), nil, false},
		{text(""), nil, false},
		{text("a"), nil, false},
		{fields(), nil, false},
		{fields(field("a", text("a"))), nil, false},
		{api.Value{Kind: 6}, nil, false},
		{api.Value{Kind: -1, List: []api.Value{text("a")}}, nil, false},
		{api.Value{Kind: api.KindMap, List: []api.Value{text("a")}}, nil, false},
		{api.Value{Kind: api.KindText, List: []api.Value{text("a")}}, nil, false},
	} {
		got, ok := tree.Texts(w.v)
		isSo(t, "Texts("+told(w.v)+")", ok, w.ok)
		if !slices.Equal(got, w.want) {
			t.Errorf("Texts(%s): %q, want %q", told(w.v), got, w.want)
		}
	}
}

// plainRow is the row of a value, as another writer tells it.
func plainRow(v api.Value) []api.Item {
	l := []api.Item{{Kind: v.Kind, Int: v.Int, Text: v.Text}}
	within := func(key string, x api.Value) {
		for i, item := range plainRow(x) {
			item.Depth++
			if i == 0 {
				item.Key = key
			}
			l = append(l, item)
		}
	}
	for _, x := range v.List {
		within("", x)
	}
	for _, f := range v.Fields {
		within(f.Key, f.Value)
	}
	return l
}

// plainMake is what a row makes, as another reader of the chapter tells it: items are put in their parents, from the last one on.
func plainMake(l []api.Item) (api.Value, bool) {
	values := make([]api.Value, len(l))
	for i, x := range l {
		values[i] = api.Value{Kind: x.Kind, Int: x.Int, Text: x.Text}
	}
	for i := len(l) - 1; i > 0; i-- {
		parent := i - 1
		for parent >= 0 && l[parent].Depth >= l[i].Depth {
			parent--
		}
		if parent < 0 || l[parent].Depth+1 != l[i].Depth {
			return api.Value{}, false
		}
		p := &values[parent]
		switch {
		case p.Kind == api.KindList && l[i].Key == "":
			p.List = append([]api.Value{values[i]}, p.List...)
		case p.Kind == api.KindMap:
			p.Fields = append([]api.Field{{Key: l[i].Key, Value: values[i]}}, p.Fields...)
		default:
			return api.Value{}, false
		}
	}
	if len(l) == 0 || l[0].Depth != 0 || l[0].Key != "" || !mayBe(values[0]) {
		return api.Value{}, false
	}
	return values[0], true
}

// mayBe tells whether a value may be, as another reader of the chapter tells it.
func mayBe(v api.Value) bool {
	n, depth := sizes(v)
	return n <= 2000 && depth <= 12 && isRight(v)
}

// sizes are the count and the depth of a value.
func sizes(v api.Value) (n, depth int) {
	within := v.List
	for _, f := range v.Fields {
		within = append(slices.Clip(within), f.Value)
	}
	for _, x := range within {
		count, d := sizes(x)
		n += count
		depth = max(depth, d)
	}
	return n + 1, depth + 1
}

// isRight is mayBe, but for the sizes.
func isRight(v api.Value) bool {
	bare := api.Value{Kind: v.Kind}
	switch v.Kind {
	case api.KindNull:
	case api.KindBool:
		bare.Int = v.Int & 1
	case api.KindInt:
		bare.Int = v.Int
	case api.KindText:
		bare.Text = strings.ToValidUTF8(v.Text, "")
	case api.KindList:
		bare.List = v.List
		for _, x := range v.List {
			if !isRight(x) {
				return false
			}
		}
	case api.KindMap:
		bare.Fields = v.Fields
		for i, f := range v.Fields {
			if !utf8.ValidString(f.Key) || !isRight(f.Value) {
				return false
			}
			for _, g := range v.Fields[:i] {
				if f.Key == g.Key {
					return false
				}
			}
		}
	default:
		return false
	}
	return told(bare) == told(v)
}

// sorted is a value, canonical, as another writer tells it.
func sorted(v api.Value) api.Value {
	var l []api.Value
	for _, x := range v.List {
		l = append(l, sorted(x))
	}
	var keys []string
	values := map[string]api.Value{}
	for _, f := range v.Fields {
		keys = append(keys, f.Key)
		values[f.Key] = sorted(f.Value)
	}
	sort.Strings(keys)
	var fs []api.Field
	for _, key := range keys {
		fs = append(fs, field(key, values[key]))
	}
	return api.Value{Kind: v.Kind, Int: v.Int, Text: v.Text, List: l, Fields: fs}
}

// holdsMake holds Make of a row against the other reader.
func holdsMake(t *testing.T, l []api.Item) bool {
	t.Helper()
	want, ok := plainMake(l)
	if ok {
		makes(t, l, want)
	} else {
		makesNone(t, l)
	}
	return ok
}

// TestShortRows is of P4.1: all rows of up to two items of all sorts, and of up to four of a few.
func TestShortRows(t *testing.T) {
	var some []api.Item
	for depth := -1; depth <= 3; depth++ {
		for kind := -1; kind <= 6; kind++ {
			for _, n := range []int64{0, 1, 2} {
				for _, key := range []string{"", "a", "\xff"} {
					for _, s := range []string{"", "x", "\xff"} {
						some = append(some, api.Item{Depth: depth, Kind: kind, Int: n, Key: key, Text: s})
					}
				}
			}
		}
	}
	for _, a := range some {
		holdsMake(t, row(a))
		holdsMake(t, row(item(0, "", list()), a))
		holdsMake(t, row(item(0, "", fields()), a))
		holdsMake(t, row(a, item(1, "", null())))
		holdsMake(t, row(item(0, "", fields()), item(1, "a", list()), a))
		holdsMake(t, row(item(0, "", list()), item(1, "", fields()), a))
		holdsMake(t, row(item(0, "", fields()), a, item(1, "b", number(1))))
	}
	var few []api.Item
	for depth := 0; depth <= 3; depth++ {
		for _, kind := range []int{api.KindText, api.KindList, api.KindMap} {
			for _, key := range []string{"", "a"} {
				few = append(few, api.Item{Depth: depth, Kind: kind, Key: key})
			}
		}
	}
	made := 0
	for _, first := range few {
		for _, a := range few {
			for _, b := range few {
				for _, c := range few {
					if holdsMake(t, row(first, a, b, c)) {
						made++
					}
				}
			}
		}
	}
	if made < 20 {
		t.Errorf("only %d of the rows of four make something: too few to tell", made)
	}
}

// some is a value, by a fixed row of numbers; of those that are wrong, something is set that may not be.
func some(r *rand.Rand, left int, wrong bool) api.Value {
	keys := []string{"", "a", "b", "ab", "aa", "B", "a\x00", "\xc3\xa9", "z", "~"}
	texts := []string{"", "x", "y", "\xc3\xa9"}
	kind := r.Intn(6)
	if left == 0 {
		kind = r.Intn(4)
	}
	v := api.Value{Kind: kind}
	switch kind {
	case api.KindBool:
		v.Int = int64(r.Intn(2))
	case api.KindInt:
		v.Int = int64(r.Intn(5)) - 2
	case api.KindText:
		v.Text = texts[r.Intn(len(texts))]
	case api.KindList:
		for range r.Intn(4) {
			v.List = append(v.List, some(r, left-1, wrong))
		}
	case api.KindMap:
		for _, i := range r.Perm(len(keys))[:r.Intn(5)] {
			v.Fields = append(v.Fields, field(keys[i], some(r, left-1, wrong)))
		}
	}
	if wrong && r.Intn(4) == 0 {
		return spoilt(r, v)
	}
	return v
}

// spoilt is v with something else set.
func spoilt(r *rand.Rand, v api.Value) api.Value {
	switch r.Intn(7) {
	case 0:
		v.Int = int64(r.Intn(4)) - 1
	case 1:
		v.Text = []string{"", "x", "\xff", "\xed\xa0\x80"}[r.Intn(4)]
	case 2:
		v.Kind = r.Intn(9) - 1
	case 3:
		v.List = append(v.List, null())
	case 4:
		v.Fields = append(v.Fields, field("zz", null()))
	case 5:
		v.Fields = append(v.Fields, field("\xff", null()))
	case 6:
		v.List, v.Fields = []api.Value{}, []api.Field{}
	}
	return v
}

// shuffled is v with all its maps' fields in another order.
func shuffled(r *rand.Rand, v api.Value) api.Value {
	out := api.Value{Kind: v.Kind, Int: v.Int, Text: v.Text}
	for _, x := range v.List {
		out.List = append(out.List, shuffled(r, x))
	}
	for _, i := range r.Perm(len(v.Fields)) {
		out.Fields = append(out.Fields, field(v.Fields[i].Key, shuffled(r, v.Fields[i].Value)))
	}
	return out
}

// TestSomeValues is of P4.1, P4.2 and P4.4: values of all sorts, against the other readers.
func TestSomeValues(t *testing.T) {
	r := rand.New(rand.NewSource(4))
	right := 0
	for i := range 20000 {
		v := some(r, 1+i%5, i%2 == 0)
		want := isRight(v)
		if want {
			right++
		}
		n, depth := sizes(v)
		isSo(t, "Check("+told(v)+")", tree.Check(v), want)
		if tree.Count(v) != n || tree.Depth(v) != depth {
			t.Errorf("%s: count %d, depth %d, want %d, %d", told(v), tree.Count(v), tree.Depth(v), n, depth)
		}
		if len(tree.Row(v)) != n {
			t.Errorf("Row(%s) of %d, want %d", told(v), len(tree.Row(v)), n)
		}
		if !want {
			continue
		}
		if got := toldRow(tree.Row(v)); got != toldRow(plainRow(v)) {
			t.Errorf("Row(%s): %s", told(v), got)
		}
		makes(t, tree.Row(v), v)
		isValue(t, "Canon("+told(v)+")", tree.Canon(v), sorted(v))
		isSo(t, "Same of another order of "+told(v), tree.Same(v, shuffled(r, v)), true)
		other := some(r, 1+i%3, false)
		isSo(t, "Same("+told(v)+", "+told(other)+")", tree.Same(v, other), told(sorted(v)) == told(sorted(other)))
	}
	if right < 5000 || right > 18000 {
		t.Errorf("%d of the values may be: too few or too many to tell", right)
	}
}

// TestSomeRows is of P4.1: rows of values, with something changed.
func TestSomeRows(t *testing.T) {
	r := rand.New(rand.NewSource(5))
	told := [2]int{}
	for i := range 20000 {
		l := plainRow(some(r, 1+i%4, false))
		at := r.Intn(len(l))
		switch r.Intn(6) {
		case 0:
			l[at].Depth += r.Intn(5) - 2
		case 1:
			l[at].Kind = r.Intn(6)
		case 2:
			l[at].Key = []string{"", "a", "b", "\xff"}[r.Intn(4)]
		case 3:
			l = slices.Delete(l, at, at+1)
		case 4:
			l = slices.Insert(l, at, api.Item{Depth: r.Intn(4), Kind: r.Intn(6), Key: []string{"", "q"}[r.Intn(2)]})
		case 5:
			l[at], l[0] = l[0], l[at]
		}
		if holdsMake(t, l) {
			told[1]++
		} else {
			told[0]++
		}
	}
	if min(told[0], told[1]) < 2000 {
		t.Errorf("%d rows make nothing, %d something: too few to tell", told[0], told[1])
	}
}

// TestFollows is of P4.4: a value that may be is what its row makes; what is put is got, and all else is as it was.
func TestFollows(t *testing.T) {
	r := rand.New(rand.NewSource(6))
	keys := []string{"", "a", "b", "ab", "\xc3\xa9", "zz"}
	for i := range 5000 {
		v, x := some(r, 1+i%4, false), some(r, 1+i%3, false)
		if i%2 == 0 {
			v = fields(field("a", v), field("b", x), field("", number(3)))
		}
		made, ok := tree.Make(tree.Row(v))
		isSo(t, "Make of the row of "+told(v), ok, true)
		isValue(t, "Make of the row of "+told(v), made, v)
		key := keys[r.Intn(len(keys))]
		put, dropped := tree.Put(v, key, x), tree.Drop(v, key)
		got, ok := tree.Get(put, key)
		isSo(t, "Get of what is put", ok, v.Kind == api.KindMap)
		if v.Kind != api.KindMap {
			isValue(t, "Put, on no map", put, v)
			isValue(t, "Drop, on no map", dropped, v)
			continue
		}
		isValue(t, "Get of what is put", got, x)
		_, ok = tree.Get(dropped, key)
		isSo(t, "Get of what is dropped", ok, false)
		for _, other := range keys {
			if other == key {
				continue
			}
			before, was := tree.Get(v, other)
			for _, changed := range []api.Value{put, dropped} {
				after, is := tree.Get(changed, other)
				isSo(t, "Get of another key", is, was)
				isValue(t, "Get of another key", after, before)
			}
		}
		_, was := tree.Get(v, key)
		isValue(t, "Drop of what is put", tree.Drop(put, key), dropped)
		if !was {
			isValue(t, "Drop of what was not there", dropped, v)
			isValue(t, "Drop of what is put, and was not there", tree.Drop(put, key), v)
		}
	}
}

// roomy is v in new memory, each of its lists with room behind it, so that a call that writes there is found out.
func roomy(v api.Value) api.Value {
	out := api.Value{Kind: v.Kind, Int: v.Int, Text: v.Text, List: make([]api.Value, 0, len(v.List)+3), Fields: make([]api.Field, 0, len(v.Fields)+3)}
	for _, x := range v.List {
		out.List = append(out.List, roomy(x))
	}
	for _, f := range v.Fields {
		out.Fields = append(out.Fields, field(f.Key, roomy(f.Value)))
	}
	return out
}

// toldRoom is what is told of v with the room behind each of its lists.
func toldRoom(v api.Value) string {
	l, fs := v.List[:cap(v.List)], v.Fields[:cap(v.Fields)]
	s := strconv.Itoa(v.Kind) + " " + strconv.FormatInt(v.Int, 10) + " " + strconv.Quote(v.Text) + "["
	for _, x := range l {
		s += "(" + toldRoom(x) + ")"
	}
	s += "]{"
	for _, f := range fs {
		s += strconv.Quote(f.Key) + ":(" + toldRoom(f.Value) + ")"
	}
	return s + "}"
}

// TestHandedIn is of R3: what is handed in stays as it is, and so does the room behind it.
func TestHandedIn(t *testing.T) {
	inner := fields(field("z", number(1)), field("y", list(keyed("d", "c"), text("x"))), field("b", keyed("q", "p")))
	for _, v := range []api.Value{inner, list(inner, keyed("b", "a"), text("t")), list(text("b"), text("a")), keyed("b", "a"), fields(), list(), text("x"), mayNotHave[9], mayNotHave[11], keyed("b", "a", "b")} {
		v, x := roomy(v), roomy(inner)
		before, beforeX := toldRoom(v), toldRoom(x)
		keys := []string{"y", "b", ""}
		tree.Check(v)
		tree.Canon(v)
		tree.Same(v, x)
		tree.Same(x, v)
		tree.Depth(v)
		tree.Count(v)
		tree.Texts(v)
		tree.Get(v)
		tree.Get(v, keys...)
		tree.Get(v, "b")
		for _, key := range []string{"z", "b", "a", "y", "", "q"} {
			tree.Put(v, key, x)
			tree.Put(tree.Put(v, key, x), key, x)
			tree.Drop(v, key)
			tree.Drop(tree.Drop(v, key), "y")
		}
		l := tree.Row(v)
		tree.Make(l)
		if got := toldRow(l); got != toldRow(tree.Row(v)) {
			t.Errorf("Make changed its row: %s", got)
		}
		if got := toldRoom(v); got != before {
			t.Errorf("%s was changed: %s", before, got)
		}
		if got := toldRoom(x); got != beforeX {
			t.Errorf("%s was changed: %s", beforeX, got)
		}
		if strings.Join(keys, ",") != "y,b," {
			t.Errorf("the keys were changed: %q", keys)
		}
	}
}

// spoil writes into the fields of v, and into the room behind them.
func spoil(v api.Value) {
	for i := range v.Fields[:cap(v.Fields)] {
		v.Fields[:cap(v.Fields)][i] = field("spoilt", text("spoilt"))
	}
}

// TestToldApart is of R3: what is told shares no list of its own with what was handed in, or told ahead.
func TestToldApart(t *testing.T) {
	for _, call := range []struct {
		name string
		ask  func(v api.Value) api.Value
	}{
		{"Canon", tree.Canon},
		{"Put in the middle", func(v api.Value) api.Value { return tree.Put(v, "a", number(9)) }},
		{"Put at the end", func(v api.Value) api.Value { return tree.Put(v, "c", number(9)) }},
		{"Drop of the first", func(v api.Value) api.Value { return tree.Drop(v, "b") }},
		{"Drop of the last", func(v api.Value) api.Value { return tree.Drop(v, "0") }},
		{"Drop of none", func(v api.Value) api.Value { return tree.Drop(v, "c") }},
	} {
		v := roomy(keyed("b", "a", "0"))
		want, was := told(call.ask(v)), told(v)
		first, second := call.ask(v), call.ask(v)
		spoil(first)
		isSo(t, call.name+": what was handed in is apart from what is told", told(v) == was, true)
		isSo(t, call.name+": what is told is apart from what was told ahead", told(second) == want, true)
		spoil(v)
		isSo(t, call.name+": what is told is apart from what was handed in", told(second) == want, true)
	}
	deep := roomy(list(fields(field("k", keyed("b", "a")))))
	canon := tree.Canon(deep)
	want := told(canon)
	spoil(deep.List[0].Fields[0].Value)
	spoil(deep.List[0])
	isSo(t, "Canon of a map in a map is apart", told(canon) == want, true)
	texts := roomy(list(text("a"), text("b")))
	got, _ := tree.Texts(texts)
	texts.List[0] = text("spoilt")
	isSo(t, "Texts are apart", slices.Equal(got, []string{"a", "b"}), true)
	l := row(item(0, "", fields()), item(1, "a", number(1)))
	made, _ := tree.Make(l)
	l[0], l[1] = item(0, "", text("spoilt")), item(1, "spoilt", null())
	isValue(t, "Make is apart", made, keyed("a"))
	first, second := tree.Row(made), tree.Row(made)
	first[1] = item(1, "spoilt", null())
	isSo(t, "Row is apart", toldRow(second) == toldRow(tree.Row(keyed("a"))), true)
}

// TestVeryLong is of P1 and R5: values and rows far beyond what may be.
func TestVeryLong(t *testing.T) {
	deep, deepMaps := in(null(), 50000), inMaps(null(), 50000)
	wide := list(many(300000)...)
	wideMap := fields()
	for i := range 300000 {
		wideMap.Fields = append(wideMap.Fields, field(strconv.Itoa(i), null()))
	}
	long := text(strings.Repeat("x", 1<<22))
	for _, w := range []struct {
		v            api.Value
		may          bool
		depth, count int
	}{{deep, false, 50001, 50001}, {deepMaps, false, 50001, 50001}, {wide, false, 2, 300001}, {wideMap, false, 2, 300001}, {long, true, 1, 1}, {keyed(long.Text, long.Text+"y"), true, 2, 3}, {keyed(long.Text, long.Text), false, 2, 3}, {text(long.Text + "\xff"), false, 1, 1}} {
		isSo(t, "Check", tree.Check(w.v), w.may)
		if tree.Depth(w.v) != w.depth || tree.Count(w.v) != w.count {
			t.Errorf("depth %d, count %d, want %d, %d", tree.Depth(w.v), tree.Count(w.v), w.depth, w.count)
		}
		l := tree.Row(w.v)
		if len(l) != w.count || l[len(l)-1].Depth != w.depth-1 {
			t.Errorf("a row of %d, want %d", len(l), w.count)
		}
		_, ok := tree.Make(l)
		isSo(t, "Make", ok, w.may)
		if c := tree.Canon(w.v); tree.Count(c) != w.count || tree.Depth(c) != w.depth {
			t.Errorf("Canon lost something: %d of %d", tree.Count(c), w.count)
		}
		isSo(t, "Same", tree.Same(w.v, w.v), true)
		isSo(t, "Same", tree.Same(w.v, list(w.v)), false)
		tree.Get(w.v, make([]string, 100000)...)
		tree.Put(w.v, "k", w.v)
		tree.Drop(w.v, "k")
		tree.Texts(w.v)
	}
	got, ok := tree.Get(deepMaps, strings.Split(strings.Repeat("k,", 49999)+"k", ",")...)
	isSo(t, "Get", ok, true)
	isValue(t, "Get", got, null())
	texts := many(300000)
	for i := range texts {
		texts[i] = text(strconv.Itoa(i))
	}
	l, ok := tree.Texts(list(texts...))
	if !ok || len(l) != 300000 || l[299999] != "299999" {
		t.Errorf("Texts of very many: %d, %v", len(l), ok)
	}
}

// TestSame is of R4: the same calls have the same answers, whatever was asked between.
func TestSame(t *testing.T) {
	for range 3 {
		TestOrdinary(t)
		TestMakeNone(t)
		TestCanon(t)
		TestSameValues(t)
	}
}

// FuzzMake is of P1, P4.1 and P4.4: whatever the row is, Make says what another reader says; what it makes has this row.
func FuzzMake(f *testing.F) {
	for _, w := range ordinary {
		b, _ := json.Marshal(w.row)
		f.Add(b)
	}
	f.Fuzz(func(t *testing.T, b []byte) {
		var l []api.Item
		if json.Unmarshal(b, &l) != nil {
			return
		}
		if holdsMake(t, l) {
			v, _ := tree.Make(l)
			if got := toldRow(tree.Row(v)); got != toldRow(l) {
				t.Errorf("Row of what is made: %s, want %s", got, toldRow(l))
			}
			isSo(t, "Check of what is made", tree.Check(v), true)
			isSo(t, "Same of what is made, canonical", tree.Same(v, tree.Canon(v)), true)
		}
	})
}
