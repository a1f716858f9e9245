package order_test

import (
	"bytes"
	"fmt"
	"go/ast"
	"go/printer"
	"go/token"
	"go/types"
	"path/filepath"
	"slices"
	"strings"
	"testing"
)

// part is one of a statement that is read, or done in its turn, and what it lies in.
type part struct {
	n  ast.Expr
	in []ast.Node
	at places
}

// unit is what of a statement is evaluated at once.
type unit struct {
	l     *look
	p     *types.Package
	reads []part
	// done are the parts of which Go says which comes first: calls, receives, and what is asked by && and ||.
	done []part
}

// to adds what is evaluated where an expression is assigned to: all of it but that place itself.
func (u *unit) to(e ast.Expr) {
	switch x := ast.Unparen(e).(type) {
	case *ast.SelectorExpr:
		u.of(x.X)
	case *ast.StarExpr:
		u.of(x.X)
	case *ast.IndexExpr:
		u.of(x.X)
		u.of(x.Index)
	}
}

// of adds an expression's parts.
func (u *unit) of(e ast.Expr) {
	var in []ast.Node
	ast.Inspect(e, func(n ast.Node) bool {
		if n == nil {
			in = in[:len(in)-1]
			return true
		}
		if _, later := n.(*ast.FuncLit); later {
			return false
		}
		if x, is := n.(ast.Expr); is {
			u.add(x, slices.Clone(in))
		}
		in = append(in, n)
		return true
	})
}

func (u *unit) add(e ast.Expr, in []ast.Node) {
	if at, is := u.l.at(e); is {
		u.reads = append(u.reads, part{e, in, places{at: {}}})
	}
	within := func(of ast.Expr) places {
		all := places{}
		if at, is := u.l.at(of); is {
			all[place{at.of, true}] = struct{}{}
		}
		return all
	}
	switch x := e.(type) {
	case *ast.UnaryExpr:
		if x.Op == token.ARROW {
			u.done = append(u.done, part{e, in, within(x.X)})
		}
	case *ast.BinaryExpr:
		if x.Op == token.LAND || x.Op == token.LOR {
			u.done = append(u.done, part{e, in, nil})
		}
	case *ast.CallExpr:
		if u.l.isCall(x) {
			u.done = append(u.done, part{e, in, u.l.changedBy(x, u.p)})
			return
		}
		if u.l.readsWithin(x) {
			u.reads = append(u.reads, part{x.Args[0], append(in, e), within(x.Args[0])})
		}
	}
}

// readsWithin tells whether that is a conversion of bytes or the like, or asks how many are in a map or channel.
func (l *look) readsWithin(c *ast.CallExpr) bool {
	if len(c.Args) != 1 {
		return false
	}
	switch l.info.TypeOf(c.Args[0]).Underlying().(type) {
	case *types.Slice:
		return l.builtin(c) == ""
	case *types.Map, *types.Chan:
		return true
	}
	return false
}

// open are the reads of which Go leaves open whether they come ahead of a call that changes what they read.
func (u *unit) open() []string {
	var l []string
	for _, r := range u.reads {
		for _, c := range u.done {
			for x := range r.at {
				if _, changed := c.at[x]; changed && !u.ordered(r, c) {
					l = append(l, u.l.show(r.n)+" beside "+u.l.show(c.n))
				}
			}
		}
	}
	slices.Sort(l)
	return slices.Compact(l)
}

// ordered tells whether Go says which of a read and a call comes first.
func (u *unit) ordered(r, c part) bool {
	// One is an operand of the other one.
	if slices.Contains(r.in, ast.Node(c.n)) || slices.Contains(c.in, ast.Node(r.n)) {
		return true
	}
	for _, d := range u.done {
		if !slices.Contains(r.in, ast.Node(d.n)) {
			continue
		}
		// What r is an operand of is done ahead of the call.
		if d.n.End() <= c.n.Pos() {
			return true
		}
		// Both lie in what is asked by && or ||, on its two sides.
		if b, is := d.n.(*ast.BinaryExpr); is && slices.Contains(c.in, ast.Node(b)) && left(b, r) != left(b, c) {
			return true
		}
	}
	return false
}

func left(b *ast.BinaryExpr, x part) bool { return x.n.End() <= b.OpPos }

func (l *look) show(n ast.Node) string {
	var b bytes.Buffer
	printer.Fprint(&b, l.fset, n)
	return b.String()
}

// open tells, of a package's statements, what is open there.
func (l *look) open(path string) []string {
	var all []string
	for _, f := range l.files[path] {
		ast.Inspect(f, func(n ast.Node) bool {
			u := &unit{l: l, p: l.packs[path]}
			u.statement(n)
			for _, what := range u.open() {
				all = append(all, fmt.Sprintf("%s: %s", l.fset.Position(n.Pos()), what))
			}
			return true
		})
	}
	slices.Sort(all)
	return all
}

// statement adds what is evaluated at once of one; what lies in blocks of it has its own turn.
func (u *unit) statement(n ast.Node) {
	switch x := n.(type) {
	case *ast.AssignStmt:
		for _, e := range x.Lhs {
			if x.Tok != token.ASSIGN && x.Tok != token.DEFINE {
				u.of(e)
				continue
			}
			u.to(e)
		}
		u.all(x.Rhs...)
	case *ast.ValueSpec:
		u.all(x.Values...)
	case *ast.ReturnStmt:
		u.all(x.Results...)
	case *ast.SendStmt:
		u.all(x.Chan, x.Value)
	case *ast.ExprStmt:
		u.of(x.X)
	case *ast.IncDecStmt:
		u.of(x.X)
	case *ast.DeferStmt:
		u.of(x.Call)
	case *ast.GoStmt:
		u.of(x.Call)
	case *ast.IfStmt:
		u.of(x.Cond)
	case *ast.ForStmt:
		u.all(x.Cond)
	case *ast.RangeStmt:
		u.of(x.X)
	case *ast.SwitchStmt:
		u.all(x.Tag)
	case *ast.CaseClause:
		for _, e := range x.List {
			u.of(e)
		}
	}
}

func (u *unit) all(l ...ast.Expr) {
	for _, e := range l {
		if e != nil {
			u.of(e)
		}
	}
}

// TestProgram: nothing is open in any package of the program, nor in its tests.
func TestProgram(t *testing.T) {
	names, err := filepath.Glob("../*/*.go")
	if err != nil {
		t.Fatal(err)
	}
	l := newLook()
	for _, name := range names {
		path := "counterpane/" + filepath.Base(filepath.Dir(name))
		if strings.HasSuffix(name, "_test.go") {
			path += "_test"
		}
		if _, err := l.Import(path); err != nil {
			t.Fatal(err)
		}
	}
	if len(l.packs) < 40 {
		t.Fatalf("only %d packages were looked at", len(l.packs))
	}
	l.settle()
	for path := range l.packs {
		for _, what := range l.open(path) {
			t.Error(what)
		}
	}
}

// TestLook: what is open in the sample is found, and nothing else; each line of it says which it is.
func TestLook(t *testing.T) {
	l := newLook()
	if _, err := l.read("sample", map[string][]byte{"sample": []byte(sample)}); err != nil {
		t.Fatal(err)
	}
	l.settle()
	found := strings.Join(l.open("sample"), "\n")
	for i, line := range strings.Split(sample, "\n") {
		is, want := strings.Contains(found, fmt.Sprintf("sample:%d:", i+1)), strings.Contains(line, "// open")
		if is != want {
			t.Errorf("line %d, %q: it is %t that it is open", i+1, line, is)
		}
	}
}
