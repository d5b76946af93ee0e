// Package sources holds what is asked of the program's text, as no call can show it.
package sources

import (
	"go/ast"
	"go/parser"
	"go/token"
	"path/filepath"
	"strings"
	"testing"
)

// place is a variable, or a field of what one points to.
type place struct {
	of    *ast.Object
	field string
}

type places map[place]bool

func (p places) add(others places) {
	for x := range others {
		p[x] = true
	}
}

// order looks for statements in which a variable is read beside a call that changes it: Go leaves open which of both is first.
type order struct {
	// changed is what a function changes: of a local one that is a closure, variables about it; of a method, fields of its receiver (where of is nil).
	closures map[*ast.Object]*ast.FuncLit
	methods  map[string][]*ast.FuncDecl
	asked    map[ast.Node]bool
	found    func(at token.Pos, what string)
}

// unpack is what stands in parentheses.
func unpack(e ast.Expr) ast.Expr {
	for {
		p, ok := e.(*ast.ParenExpr)
		if !ok {
			return e
		}
		e = p.X
	}
}

// placeOf is the place that an expression names.
func placeOf(e ast.Expr) (place, bool) {
	switch x := unpack(e).(type) {
	case *ast.Ident:
		return place{of: x.Obj}, x.Obj != nil
	case *ast.SelectorExpr:
		if of, ok := x.X.(*ast.Ident); ok && of.Obj != nil {
			return place{of.Obj, x.Sel.Name}, true
		}
	}
	return place{}, false
}

// written is what is assigned, in a function and in those that it calls.
func (o *order) written(body ast.Node) places {
	out := places{}
	if o.asked[body] {
		return out
	}
	o.asked[body] = true
	defer delete(o.asked, body)
	put := func(e ast.Expr) {
		if p, ok := placeOf(e); ok {
			out[p] = true
		}
	}
	ast.Inspect(body, func(n ast.Node) bool {
		switch x := n.(type) {
		case *ast.AssignStmt:
			for _, e := range x.Lhs {
				put(e)
			}
		case *ast.IncDecStmt:
			put(x.X)
		case *ast.CallExpr:
			out.add(o.changes(x.Fun))
		}
		return true
	})
	return out
}

// changes is what a call of fun changes that the caller may read.
func (o *order) changes(fun ast.Expr) places {
	out := places{}
	p, ok := placeOf(fun)
	if !ok {
		return out
	}
	if lit := o.closures[p.of]; p.field == "" && lit != nil {
		for x := range o.written(lit) {
			if at := x.of.Pos(); at < lit.Pos() || at > lit.End() {
				out[x] = true
			}
		}
	}
	for _, m := range o.methods[p.field] {
		if len(m.Recv.List[0].Names) == 0 {
			continue
		}
		for x := range o.written(m.Body) {
			if x.of == m.Recv.List[0].Names[0].Obj && x.field != "" {
				out[place{p.of, x.field}] = true
			}
		}
	}
	return out
}

// effects is what an expression reads, and what calls in it change.
func (o *order) effects(e ast.Expr) (read, changed places) {
	switch x := unpack(e).(type) {
	case nil, *ast.FuncLit, *ast.BasicLit:
		return places{}, places{}
	case *ast.Ident:
		p, ok := placeOf(x)
		if !ok {
			return places{}, places{}
		}
		return places{p: true}, places{}
	case *ast.SelectorExpr:
		read, changed = o.effects(x.X)
		if p, ok := placeOf(x); ok {
			read[p] = true
		}
		return read, changed
	case *ast.BinaryExpr:
		if x.Op != token.LAND && x.Op != token.LOR {
			return o.beside(x.X, x.Y)
		}
		// Of these the right side always comes behind the left one.
		read, changed = o.effects(x.X)
		moreRead, moreChanged := o.effects(x.Y)
		read.add(moreRead)
		changed.add(moreChanged)
		return read, changed
	case *ast.CallExpr:
		read, changed = o.beside(append([]ast.Expr{x.Fun}, x.Args...)...)
		changed.add(o.changes(x.Fun))
		return read, changed
	case *ast.CompositeLit:
		return o.beside(x.Elts...)
	case *ast.KeyValueExpr:
		return o.beside(x.Key, x.Value)
	case *ast.IndexExpr:
		return o.beside(x.X, x.Index)
	case *ast.SliceExpr:
		return o.beside(x.X, x.Low, x.High, x.Max)
	case *ast.StarExpr:
		return o.effects(x.X)
	case *ast.UnaryExpr:
		return o.effects(x.X)
	case *ast.TypeAssertExpr:
		return o.effects(x.X)
	}
	return places{}, places{}
}

// beside is effects of several expressions of one statement; what one reads and a call in another one changes is told.
func (o *order) beside(l ...ast.Expr) (read, changed places) {
	read, changed = places{}, places{}
	for _, e := range l {
		r, c := o.effects(e)
		for _, pair := range [][2]places{{r, changed}, {read, c}} {
			for x := range pair[0] {
				if pair[1][x] {
					o.found(e.Pos(), strings.TrimSuffix(x.of.Name+"."+x.field, "."))
				}
			}
		}
		read.add(r)
		changed.add(c)
	}
	return read, changed
}

// statement asks one statement; those that stand in it are asked for themselves.
func (o *order) statement(n ast.Node) {
	switch x := n.(type) {
	case *ast.ReturnStmt:
		o.beside(x.Results...)
	case *ast.AssignStmt:
		l := x.Rhs
		for _, e := range x.Lhs {
			switch y := unpack(e).(type) {
			case *ast.IndexExpr:
				l = append(l[:len(l):len(l)], y.X, y.Index)
			default:
				// What adds to a variable reads it, too.
				if x.Tok != token.ASSIGN && x.Tok != token.DEFINE {
					l = append(l[:len(l):len(l)], e)
				}
			}
		}
		o.beside(l...)
	case *ast.ValueSpec:
		o.beside(x.Values...)
	case *ast.ExprStmt:
		o.effects(x.X)
	case *ast.IfStmt:
		o.effects(x.Cond)
	case *ast.ForStmt:
		o.effects(x.Cond)
	case *ast.RangeStmt:
		o.effects(x.X)
	case *ast.SwitchStmt:
		o.effects(x.Tag)
	case *ast.CaseClause:
		for _, e := range x.List {
			o.effects(e)
		}
	case *ast.DeferStmt:
		o.effects(x.Call)
	case *ast.GoStmt:
		o.effects(x.Call)
	case *ast.SendStmt:
		o.beside(x.Chan, x.Value)
	}
}

// ordered asks all files of a package.
func ordered(files []*ast.File, found func(at token.Pos, what string)) {
	o := &order{closures: map[*ast.Object]*ast.FuncLit{}, methods: map[string][]*ast.FuncDecl{}, asked: map[ast.Node]bool{}, found: found}
	note := func(name, value ast.Expr) {
		id, isName := name.(*ast.Ident)
		lit, isLit := unpack(value).(*ast.FuncLit)
		if isName && isLit && id.Obj != nil {
			o.closures[id.Obj] = lit
		}
	}
	for _, f := range files {
		ast.Inspect(f, func(n ast.Node) bool {
			switch x := n.(type) {
			case *ast.FuncDecl:
				if x.Recv != nil {
					o.methods[x.Name.Name] = append(o.methods[x.Name.Name], x)
				}
			case *ast.AssignStmt:
				for i, e := range x.Rhs {
					note(x.Lhs[i], e)
				}
			case *ast.ValueSpec:
				for i, e := range x.Values {
					note(x.Names[i], e)
				}
			}
			return true
		})
	}
	for _, f := range files {
		ast.Inspect(f, func(n ast.Node) bool {
			o.statement(n)
			return true
		})
	}
}

// TestFinds is of the test below: what it finds, and what it lets be.
func TestFinds(t *testing.T) {
	const begin = "package p\n\ntype r struct{ at, n int }\n\nfunc (r *r) next() int { r.at++; return 1 }\n\nfunc (r *r) over() int { return r.next() }\n\nfunc f(r *r, l []int) (int, int) {\n\tat := 0\n\tvar next func() int\n\tnext = func() int { at++; return 1 }\n\tover := func() int { return next() }\n\t"
	for text, want := range map[string]bool{
		"return next(), at":                                    true,
		"return at, next()":                                    true,
		"return over(), at":                                    true,
		"return next() + at, 0":                                true,
		"return l[next()+at], 0":                               true,
		"l[at] = next(); return 0, 0":                          true,
		"at += next(); return 0, 0":                            true,
		"l = append(l, at, next()); return 0, 0":               true,
		"return r.next(), r.at":                                true,
		"return r.over(), r.at":                                true,
		"return r.at + r.over(), 0":                            true,
		"if r.at < r.next() { return 0, 0 }; return 0":         true,
		"v := next(); return v, at":                            false,
		"at = next(); return at, 0":                            false,
		"return next(), over()":                                false,
		"return next(), r.at":                                  false,
		"return r.next(), at":                                  false,
		"return r.next(), r.n":                                 false,
		"if next() > 0 && at > 0 { return 0, 0 }; return 0, 0": false,
		"if at > 0 || over() > 0 { return 0, 0 }; return 0, 0": false,
		"return next(), func() int { return at }()":            false,
	} {
		set := token.NewFileSet()
		f, err := parser.ParseFile(set, "p.go", begin+text+"\n}\n", 0)
		if err != nil {
			t.Fatal(text, err)
		}
		got := false
		ordered([]*ast.File{f}, func(token.Pos, string) { got = true })
		if got != want {
			t.Errorf("%s: %v, want %v", text, got, want)
		}
	}
}

// TestOrder is of P4.1 (and of all promises of a layer's answers): no answer hangs on an order that Go leaves open.
func TestOrder(t *testing.T) {
	folders := map[string][]*ast.File{}
	set := token.NewFileSet()
	names, err := filepath.Glob("../*/*.go")
	if err != nil {
		t.Fatal(err)
	}
	for _, name := range names {
		if strings.HasSuffix(name, "_test.go") {
			continue
		}
		f, err := parser.ParseFile(set, name, nil, 0)
		if err != nil {
			t.Fatal(err)
		}
		folders[filepath.Dir(name)] = append(folders[filepath.Dir(name)], f)
	}
	if len(folders["../tree"]) == 0 {
		t.Fatal("package tree is not where it is looked for")
	}
	for _, files := range folders {
		ordered(files, func(at token.Pos, what string) {
			t.Errorf("%s: %s is read beside a call that changes it", set.Position(at), what)
		})
	}
}
