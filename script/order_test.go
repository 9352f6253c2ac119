package script

import (
	"go/ast"
	"go/importer"
	"go/parser"
	"go/token"
	"go/types"
	"path/filepath"
	"slices"
	"strings"
	"testing"
)

// Go settles in which order the calls of a statement come, but not whether a variable beside a call is read ahead of it or behind it.
// An answer shows only what today's compiler has chosen: so here the package's own text is looked at.

// TestP1705OneOrder: what Parse answers (and Print) hangs on no order of evaluation that Go leaves open.
func TestP1705OneOrder(t *testing.T) {
	names, err := filepath.Glob("*.go")
	if err != nil {
		t.Fatal(err)
	}
	fset := token.NewFileSet()
	var files []*ast.File
	for _, name := range names {
		if !strings.HasSuffix(name, "_test.go") {
			files = append(files, parsed(t, fset, name, nil))
		}
	}
	if len(files) == 0 {
		t.Fatal("the package has no text")
	}
	if got := openReads(t, fset, files...); len(got) > 0 {
		t.Errorf("it is left open whether these read ahead of their calls: %v", got)
	}
}

// TestOpenReads: which reads are left open.
func TestOpenReads(t *testing.T) {
	for body, want := range map[string]bool{
		"s := step{}; ok := true; return s, ok && r.more(&s)":               true, // s may be read while its fields are missing
		"s := step{}; ok := r.more(&s); return s, ok":                       false,
		"s := step{}; ok := true; ok = ok && r.more(&s); return s, ok":      false,
		"s := step{}; r.more(&s); return s, r.take()":                       true, // who has been given s may have kept it
		"s := step{}; return s, r.take()":                                   false,
		"s := step{}; s.n, s.more = 1, s.set(); return s, true":             false,
		"s := step{}; s.n += number(s.set()); return s, true":               true,
		"s := step{}; return step{s.n, s.set()}, true":                      true,
		"s := step{}; x := [2]*step{&s}; return step{}, r.more(x[0])":       false,
		"s := step{}; x := []*step{&s}; return *x[0], r.more(&s)":           true,
		"var s step; var ok, n = s.set(), s.n; return step{n, ok}, ok":      true,
		"a := 1; f := func() int { a++; return a }; x := []int{a, f()}":     true, // the example of Go's specification
		"a := 1; f := func() int { a++; return a }; x := []int{f(), 1}":     false,
		"a := 1; f := func() int { return 1 }; x := []int{a, f()}":          false,
		"return step{n: r.at}, r.take()":                                    true,
		"n := r.at; return step{n: n}, r.take()":                            false,
		"return step{}, r.at < 9 && r.take()":                               false,
		"return step{}, r.take() || r.at < 9":                               false,
		"return step{}, r.take() == (r.at < 9)":                             true,
		"return step{}, r.takes(r.at)":                                      false,
		"return step{}, r.takes(number(r.take()) + r.at)":                   true,
		"return *r.step(), true":                                            false,
		"return step{n: r.step().n}, true":                                  false,
		"return *r.step(), r.take()":                                        true,
		"l := []int{1}; return step{n: l[0]}, r.takes(l...)":                true,
		"l := []int{1}; return step{n: len(l)}, r.takes(l...)":              false,
		"l := [1]int{1}; return step{n: l[0]}, r.takes(l[:]...)":            true,
		"l := []int{1}; l[r.at] = number(r.take())":                         true,
		"l := []int{1}; l[0] = number(r.take())":                            false,
		"l := []int{1}; l[0] += number(r.take())":                           true,
		"l := []int{1}; l[number(r.take())]++":                              false,
		"r.list[number(r.take())]++":                                        true,
		"if r.takes(1) { return step{}, r.take() }":                         false,
		"if r.at == number(r.take()) { }":                                   true,
		"for r.at > 0 && r.take() { }":                                      false,
		"for r.at > number(r.take()) { }":                                   true,
		"switch r.at { case number(r.take()), r.at: }":                      false,
		"switch r.at + number(r.take()) { }":                                true,
		"for range r.at - number(r.take()) { }":                             true,
		"c := make(chan int, 1); c <- r.at + number(r.take())":              true,
		"defer r.takes(r.at, number(r.take()))":                             true,
		"defer r.takes(r.at)":                                               false,
		"go r.takes(r.at)":                                                  false,
		"f := func() int { return r.at + number(r.take()) }":                true,
		"func() { r.take() }()":                                             false,
		"m := map[int]int{}; m[0] = m[r.at] + number(r.take())":             true,
		"x := float64(r.at) + float64(number(r.take()))":                    true,
		"x := float64(r.at) + float64(len(r.list)); r.take()":               false,
		"r.at, r.list[0] = number(r.take()), 1":                             true, // r.list may be another one by then
		"r.at = number(r.take())":                                           false,
		"x := text[r.at]; y := text[0] + text[number(r.take())] + byte(x)":  false,
		"x := string(text[0]) + string(text[r.at]) + string(byte(r.set()))": true,
	} {
		source := "package p\n" + openHead + "func (r *reader) asked() (step, bool) {\n" + unused(body) + "; return step{}, false }\n"
		fset := token.NewFileSet()
		if got := openReads(t, fset, parsed(t, fset, "p.go", source)); len(got) > 0 != want {
			t.Errorf("%s: open at %v; want any: %v", body, got, want)
		}
	}
}

// openHead: what the bodies of TestOpenReads lean on.
const openHead = `
const text = "text"
type step struct { n int; more bool }
func (s *step) set() bool { s.n++; return true }
type reader struct { at int; list []int }
func (r *reader) more(s *step) bool { s.n++; return true }
func (r *reader) take() bool { r.at++; return true }
func (r *reader) takes(l ...int) bool { r.at++; return true }
func (r *reader) set() int { r.at++; return r.at }
func (r *reader) step() *step { r.at++; return &step{n: 1} }
func number(ok bool) int { return 1 }
`

// unused: a body whose variables Go takes for used.
func unused(body string) string {
	for _, name := range []string{"x", "y", "f"} {
		if strings.Contains(body, name+" := ") {
			body += "; _ = " + name
		}
	}
	return body
}

func parsed(t *testing.T, fset *token.FileSet, name string, source any) *ast.File {
	t.Helper()
	f, err := parser.ParseFile(fset, name, source, parser.SkipObjectResolution)
	if err != nil {
		t.Fatal(err)
	}
	return f
}

// openReads tells where a package's statements read what a call beside may change, and nothing settles which of both comes first. It takes any call to change all that calls can reach.
func openReads(t *testing.T, fset *token.FileSet, files ...*ast.File) []string {
	t.Helper()
	o := orders{
		info:    &types.Info{Types: map[ast.Expr]types.TypeAndValue{}, Uses: map[*ast.Ident]types.Object{}, Selections: map[*ast.SelectorExpr]*types.Selection{}},
		reached: map[types.Object]bool{},
	}
	c := types.Config{Importer: importer.ForCompiler(fset, "source", nil)}
	if _, err := c.Check("p", fset, files, o.info); err != nil {
		t.Fatal(err)
	}
	for _, f := range files {
		ast.Inspect(f, o.reach)
	}
	var places []string
	for _, f := range files {
		ast.Inspect(f, func(n ast.Node) bool {
			for _, unit := range units(n) {
				if o.isOpen(unit) {
					places = append(places, fset.Position(n.Pos()).String())
				}
			}
			return true
		})
	}
	return places
}

// units tells what a node's statement evaluates at once; the statements within it are nodes of their own.
func units(n ast.Node) [][]ast.Expr {
	switch x := n.(type) {
	case *ast.ExprStmt:
		return [][]ast.Expr{{x.X}}
	case *ast.SendStmt:
		return [][]ast.Expr{{x.Chan, x.Value}}
	case *ast.AssignStmt:
		return [][]ast.Expr{operands(x)}
	case *ast.IncDecStmt:
		return [][]ast.Expr{{x.X}}
	case *ast.ValueSpec:
		return [][]ast.Expr{x.Values}
	case *ast.ReturnStmt:
		return [][]ast.Expr{x.Results}
	case *ast.GoStmt:
		return [][]ast.Expr{append([]ast.Expr{x.Call.Fun}, x.Call.Args...)}
	case *ast.DeferStmt:
		return [][]ast.Expr{append([]ast.Expr{x.Call.Fun}, x.Call.Args...)}
	case *ast.IfStmt:
		return [][]ast.Expr{{x.Cond}}
	case *ast.ForStmt:
		return [][]ast.Expr{{x.Cond}}
	case *ast.RangeStmt:
		return [][]ast.Expr{{x.X}}
	case *ast.SwitchStmt:
		return [][]ast.Expr{{x.Tag}}
	case *ast.CaseClause: // its values come one behind the other
		return slices.Collect(slices.Chunk(x.List, 1))
	}
	return nil
}

// operands tells what an assignment evaluates: of what it writes to just the place, as & would.
func operands(x *ast.AssignStmt) []ast.Expr {
	out := slices.Clone(x.Rhs)
	for _, e := range x.Lhs {
		if x.Tok == token.ASSIGN || x.Tok == token.DEFINE {
			e = &ast.UnaryExpr{Op: token.AND, X: e}
		}
		out = append(out, e)
	}
	return out
}

// orders knows the types of a package, and which variables a call may reach: those whose address is taken, and those that a function literal has from outside.
type orders struct {
	info    *types.Info
	reached map[types.Object]bool
}

func (o *orders) reach(n ast.Node) bool {
	switch x := n.(type) {
	case *ast.UnaryExpr:
		if x.Op == token.AND {
			o.give(x.X)
		}
	case *ast.SliceExpr:
		if o.isArray(x.X) {
			o.give(x.X)
		}
	case *ast.SelectorExpr:
		if o.takesAddress(x) {
			o.give(x.X)
		}
	case *ast.FuncLit:
		ast.Inspect(x.Body, func(n ast.Node) bool {
			if name, ok := n.(*ast.Ident); ok {
				v := o.info.Uses[name]
				o.reached[v] = o.reached[v] || v != nil && (v.Pos() < x.Pos() || v.Pos() > x.End())
			}
			return true
		})
	}
	return true
}

// give: the address of a variable, or of a part of it, is taken.
func (o *orders) give(e ast.Expr) {
	switch x := ast.Unparen(e).(type) {
	case *ast.Ident:
		o.reached[o.info.Uses[x]] = true
	case *ast.SelectorExpr:
		if !o.isPointer(x.X) {
			o.give(x.X)
		}
	case *ast.IndexExpr:
		if o.isArray(x.X) {
			o.give(x.X)
		}
	}
}

func (o *orders) isArray(e ast.Expr) bool {
	_, ok := o.info.TypeOf(e).Underlying().(*types.Array)
	return ok
}

func (o *orders) isPointer(e ast.Expr) bool {
	_, ok := o.info.TypeOf(e).Underlying().(*types.Pointer)
	return ok
}

// takesAddress tells whether x is a pointer's method, of a variable that is none.
func (o *orders) takesAddress(x *ast.SelectorExpr) bool {
	s := o.info.Selections[x]
	if s == nil || s.Kind() != types.MethodVal || o.isPointer(x.X) {
		return false
	}
	_, ok := s.Obj().Type().(*types.Signature).Recv().Type().(*types.Pointer)
	return ok
}

func (o *orders) isOpen(unit []ast.Expr) bool {
	w := walk{orders: o}
	w.all(unit...)
	for _, read := range w.reads {
		for _, call := range w.calls {
			if !settled(read, call) {
				return true
			}
		}
	}
	return false
}

// settled: the read is an operand of the call, or of what it answered; or && or || stands between them. Both are told by the way to them.
func settled(read, call []ast.Expr) bool {
	i := 0
	for i < len(read) && i < len(call) && read[i] == call[i] {
		i++
	}
	if i == 0 || i == len(read) || i == len(call) {
		return i > 0
	}
	b, ok := read[i-1].(*ast.BinaryExpr)
	return ok && (b.Op == token.LAND || b.Op == token.LOR)
}

// walk goes through expressions, and notes the calls and the reads of what calls may change, each by the way to it.
type walk struct {
	*orders
	way          []ast.Expr
	reads, calls [][]ast.Expr
}

func (w *walk) all(l ...ast.Expr) {
	for _, e := range l {
		if e != nil {
			w.one(e, false)
		}
	}
}

func (w *walk) read(ok bool) {
	if ok {
		w.reads = append(w.reads, slices.Clone(w.way))
	}
}

// one goes through an expression; what is a place is not read itself.
func (w *walk) one(e ast.Expr, isPlace bool) {
	w.way = append(w.way, e)
	switch x := e.(type) {
	case *ast.ParenExpr:
		w.one(x.X, isPlace)
	case *ast.Ident:
		w.read(!isPlace && w.reached[w.info.Uses[x]])
	case *ast.SelectorExpr:
		w.selector(x, isPlace)
	case *ast.IndexExpr:
		w.index(x, isPlace)
	case *ast.SliceExpr:
		w.one(x.X, w.isArray(x.X))
		w.all(x.Low, x.High, x.Max)
	case *ast.StarExpr:
		w.read(!isPlace)
		w.all(x.X)
	case *ast.UnaryExpr:
		w.one(x.X, x.Op == token.AND)
	case *ast.BinaryExpr:
		w.all(x.X, x.Y)
	case *ast.KeyValueExpr:
		w.all(x.Value)
	case *ast.CompositeLit:
		w.all(x.Elts...)
	case *ast.TypeAssertExpr:
		w.all(x.X)
	case *ast.CallExpr:
		if f := w.info.Types[x.Fun]; !f.IsType() && !f.IsBuiltin() {
			w.calls = append(w.calls, slices.Clone(w.way))
			w.all(x.Fun)
		}
		w.all(x.Args...)
	}
	w.way = w.way[:len(w.way)-1]
}

func (w *walk) selector(x *ast.SelectorExpr, isPlace bool) {
	s := w.info.Selections[x]
	switch {
	case s == nil: // a thing of another package
	case s.Kind() == types.FieldVal && !w.isPointer(x.X):
		w.one(x.X, isPlace)
	default:
		w.read(!isPlace && s.Kind() == types.FieldVal)
		w.one(x.X, w.takesAddress(x))
	}
}

func (w *walk) index(x *ast.IndexExpr, isPlace bool) {
	if w.isArray(x.X) {
		w.one(x.X, isPlace)
	} else {
		_, isText := w.info.TypeOf(x.X).Underlying().(*types.Basic)
		w.read(!isPlace && !isText)
		w.all(x.X)
	}
	w.all(x.Index)
}
