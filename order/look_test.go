// Package order_test asks of the program's text what no run of it can show: that nothing hangs on an order of evaluation that Go leaves open. The calls of a statement are done from left to right; but whether a variable that one of them changes is read ahead of that call, or behind it, is open, where the read is no operand of it.
package order_test

import (
	"go/ast"
	"go/build"
	"go/importer"
	"go/parser"
	"go/token"
	"go/types"
	"os"
	"os/exec"
	"path/filepath"
	"slices"
	"strings"
)

// place is where something stands: a variable, or a field of what a pointer leads to, whichever that is; or within that: an item of a list or map, or what a pointer leads to.
type place struct {
	of     types.Object
	within bool
}

type places map[place]struct{}

// look is a program whose text is looked at.
type look struct {
	fset   *token.FileSet
	info   *types.Info
	std    types.Importer
	packs  map[string]*types.Package
	files  map[string][]*ast.File
	bodies map[types.Object]ast.Node
	// literals are the functions that variables and fields hold, and all of a package.
	literals map[types.Object][]ast.Node
	unnamed  map[*types.Package][]ast.Node
	changes  map[ast.Node]places
	pack     map[ast.Node]*types.Package
}

func newLook() *look {
	if build.Default.GOROOT == "" {
		root, _ := exec.Command("go", "env", "GOROOT").Output()
		build.Default.GOROOT = strings.TrimSpace(string(root))
	}
	l := &look{fset: token.NewFileSet(), packs: map[string]*types.Package{}, files: map[string][]*ast.File{}, bodies: map[types.Object]ast.Node{}, literals: map[types.Object][]ast.Node{}, unnamed: map[*types.Package][]ast.Node{}, changes: map[ast.Node]places{}, pack: map[ast.Node]*types.Package{}}
	l.info = &types.Info{Types: map[ast.Expr]types.TypeAndValue{}, Uses: map[*ast.Ident]types.Object{}, Defs: map[*ast.Ident]types.Object{}, Selections: map[*ast.SelectorExpr]*types.Selection{}}
	l.std = importer.ForCompiler(l.fset, "source", nil)
	return l
}

// Import has a package of the program read from the folder above this one, and others from where they lie; a package's tests are one of its name and _test.
func (l *look) Import(path string) (*types.Package, error) {
	name, own := strings.CutPrefix(path, "counterpane/")
	name, test := strings.CutSuffix(name, "_test")
	if !own {
		return l.std.Import(path)
	}
	if p := l.packs[path]; p != nil {
		return p, nil
	}
	names, err := filepath.Glob(filepath.Join("..", name, "*.go"))
	if err != nil {
		return nil, err
	}
	texts := map[string][]byte{}
	for _, n := range names {
		if strings.HasSuffix(n, "_test.go") != test {
			continue
		}
		if texts[n], err = os.ReadFile(n); err != nil {
			return nil, err
		}
	}
	return l.read(path, texts)
}

// read has a package be one of those files.
func (l *look) read(path string, texts map[string][]byte) (*types.Package, error) {
	var files []*ast.File
	for name, text := range texts {
		f, err := parser.ParseFile(l.fset, name, text, 0)
		if err != nil {
			return nil, err
		}
		files = append(files, f)
	}
	p, err := (&types.Config{Importer: l}).Check(path, l.fset, files, l.info)
	l.packs[path], l.files[path] = p, files
	for _, f := range files {
		l.gather(p, f)
	}
	return p, err
}

// gather keeps where functions have their bodies.
func (l *look) gather(p *types.Package, f *ast.File) {
	hold := func(to ast.Expr, what ast.Expr) {
		if lit, is := ast.Unparen(what).(*ast.FuncLit); is {
			if o := l.object(to); o != nil {
				l.literals[o] = append(l.literals[o], lit)
			}
		}
	}
	ast.Inspect(f, func(n ast.Node) bool {
		switch x := n.(type) {
		case *ast.FuncDecl:
			l.bodies[l.info.Defs[x.Name]] = x
			l.changes[x], l.pack[x] = places{}, p
		case *ast.FuncLit:
			l.unnamed[p] = append(l.unnamed[p], x)
			l.changes[x], l.pack[x] = places{}, p
		case *ast.AssignStmt:
			for i, to := range x.Lhs {
				if len(x.Rhs) == len(x.Lhs) {
					hold(to, x.Rhs[i])
				}
			}
		case *ast.ValueSpec:
			for i, what := range x.Values {
				hold(x.Names[i], what)
			}
		}
		return true
	})
}

// object is the variable or field that an expression names.
func (l *look) object(e ast.Expr) types.Object {
	switch x := ast.Unparen(e).(type) {
	case *ast.Ident:
		if o := l.info.Defs[x]; o != nil {
			return o
		}
		return l.info.Uses[x]
	case *ast.SelectorExpr:
		return l.info.Uses[x.Sel]
	}
	return nil
}

// at is the place that an expression names; false: it names none.
func (l *look) at(e ast.Expr) (place, bool) {
	switch x := ast.Unparen(e).(type) {
	case *ast.Ident:
		v, is := l.object(x).(*types.Var)
		return place{v, false}, is && !v.IsField()
	case *ast.SelectorExpr:
		return l.field(x)
	case *ast.SliceExpr:
		return l.at(x.X)
	case *ast.StarExpr:
		p, is := l.at(x.X)
		return place{p.of, true}, is
	case *ast.IndexExpr:
		p, is := l.at(x.X)
		if _, whole := l.info.TypeOf(x.X).Underlying().(*types.Array); !whole {
			p.within = true
		}
		return p, is
	}
	return place{}, false
}

// field is the place of one: of its own behind a pointer, else that of the whole it is a part of.
func (l *look) field(x *ast.SelectorExpr) (place, bool) {
	s := l.info.Selections[x]
	if s == nil || s.Kind() != types.FieldVal {
		return place{}, false
	}
	p, is := l.at(x.X)
	t := s.Recv()
	for _, i := range s.Index() {
		under, pointer := t.Underlying().(*types.Pointer)
		if pointer {
			t = under.Elem()
		}
		f := t.Underlying().(*types.Struct).Field(i)
		if pointer {
			p, is = place{f.Origin(), false}, true
		}
		t = f.Type()
	}
	return p, is
}

// isCall tells whether that calls a function: no conversion, and nothing that the language has built in.
func (l *look) isCall(c *ast.CallExpr) bool {
	return !l.info.Types[c.Fun].IsType() && l.builtin(c) == ""
}

func (l *look) builtin(c *ast.CallExpr) string {
	if id, is := ast.Unparen(c.Fun).(*ast.Ident); is {
		if b, is := l.info.Uses[id].(*types.Builtin); is {
			return b.Name()
		}
	}
	return ""
}

// functions are the bodies that a function value may have; all without a name of its package, if nothing tells which.
func (l *look) functions(e ast.Expr, p *types.Package) []ast.Node {
	if lit, is := ast.Unparen(e).(*ast.FuncLit); is {
		return []ast.Node{lit}
	}
	if x, is := ast.Unparen(e).(*ast.IndexExpr); is {
		if _, generic := l.info.TypeOf(x.X).Underlying().(*types.Signature); generic {
			return l.functions(x.X, p)
		}
	}
	if c, is := ast.Unparen(e).(*ast.CallExpr); is && l.ofLibrary(c) {
		// What it was made of is asked where that is handed in.
		return nil
	}
	switch o := l.object(e).(type) {
	case *types.Func:
		if body := l.bodies[o.Origin()]; body != nil {
			return []ast.Node{body}
		}
		return nil
	case *types.Var:
		if held := l.literals[o]; held != nil {
			return held
		}
	}
	return l.unnamed[p]
}

// ofLibrary tells whether that calls a function of the library.
func (l *look) ofLibrary(c *ast.CallExpr) bool {
	f, is := l.object(c.Fun).(*types.Func)
	return is && l.bodies[f.Origin()] == nil
}

// changers are functions of the library that change the list or map that is their first argument.
var changers = strings.Fields("slices.Sort slices.SortFunc slices.SortStableFunc slices.Reverse slices.Delete slices.DeleteFunc slices.Insert slices.Compact slices.CompactFunc slices.Replace maps.Copy maps.DeleteFunc maps.Insert sort.Strings sort.Ints sort.Slice sort.Sort heap.Push heap.Pop heap.Init")

// changedBy are the places that a call may change, which somebody beside what it calls may read.
func (l *look) changedBy(c *ast.CallExpr, p *types.Package) places {
	all := places{}
	add := func(e ast.Expr, within bool) {
		if x, is := l.at(e); is {
			all[place{x.of, x.within || within}] = struct{}{}
		}
	}
	for _, body := range l.functions(c.Fun, p) {
		l.told(c, body, all)
	}
	for _, arg := range c.Args {
		if _, function := l.info.TypeOf(arg).Underlying().(*types.Signature); function {
			for _, body := range l.functions(arg, p) {
				l.told(c, body, all)
			}
		}
		if x, is := ast.Unparen(arg).(*ast.UnaryExpr); is && x.Op == token.AND {
			add(x.X, false)
			add(x.X, true)
		}
	}
	s, method := ast.Unparen(c.Fun).(*ast.SelectorExpr)
	if !method {
		return all
	}
	if f, is := l.info.Uses[s.Sel].(*types.Func); is && f.Pkg() != nil && l.bodies[f.Origin()] == nil {
		if l.info.Selections[s] == nil && len(c.Args) > 0 && slices.Contains(changers, f.Pkg().Name()+"."+f.Name()) {
			add(c.Args[0], true)
		}
		if r := f.Signature().Recv(); r != nil && !strings.HasPrefix(f.Name(), "Len") && !strings.HasPrefix(f.Name(), "String") {
			if _, pointer := r.Type().(*types.Pointer); pointer {
				_, far := l.info.TypeOf(s.X).Underlying().(*types.Pointer)
				add(s.X, far)
				add(s.X, true)
			}
		}
	}
	return all
}

// told adds what a body changes to what a call of it does: not what is its own, but what is within an argument of that call.
func (l *look) told(c *ast.CallExpr, body ast.Node, all places) {
	for x := range l.changes[body] {
		if x.of.Pos() < body.Pos() || x.of.Pos() >= body.End() {
			all[x] = struct{}{}
		} else if arg := l.argument(c, body, x.of); arg != nil && x.within {
			if at, is := l.at(arg); is {
				all[place{at.of, true}] = struct{}{}
			}
		}
	}
}

// argument is what a call hands in as that parameter of a body, or nil.
func (l *look) argument(c *ast.CallExpr, body ast.Node, o types.Object) ast.Expr {
	var list *ast.FieldList
	switch x := body.(type) {
	case *ast.FuncDecl:
		list = x.Type.Params
		if s, is := ast.Unparen(c.Fun).(*ast.SelectorExpr); is && x.Recv != nil && len(x.Recv.List[0].Names) > 0 && l.info.Defs[x.Recv.List[0].Names[0]] == o {
			return s.X
		}
	case *ast.FuncLit:
		list = x.Type.Params
	}
	i := 0
	for _, f := range list.List {
		for _, name := range f.Names {
			if l.info.Defs[name] == o && i < len(c.Args) {
				return c.Args[i]
			}
			i++
		}
	}
	return nil
}

// settle has each body know what it changes, and what those change that it calls, until nothing is new.
func (l *look) settle() {
	for grown := true; grown; {
		grown = false
		for body, all := range l.changes {
			was := len(all)
			l.gatherChanges(body, all)
			grown = grown || len(all) > was
		}
	}
}

// gatherChanges tells what stands in a body; a function without a name in it may be called by it.
func (l *look) gatherChanges(body ast.Node, all places) {
	add := func(e ast.Expr, within bool) {
		if x, is := l.at(e); is {
			all[place{x.of, x.within || within}] = struct{}{}
		}
	}
	ast.Inspect(body, func(n ast.Node) bool {
		switch x := n.(type) {
		case *ast.AssignStmt:
			for _, e := range x.Lhs {
				add(e, false)
			}
		case *ast.IncDecStmt:
			add(x.X, false)
		case *ast.RangeStmt:
			for _, e := range []ast.Expr{x.Key, x.Value} {
				if e != nil {
					add(e, false)
				}
			}
		case *ast.SendStmt:
			add(x.Chan, true)
		case *ast.UnaryExpr:
			if x.Op == token.ARROW {
				add(x.X, true)
			}
		case *ast.CallExpr:
			switch l.builtin(x) {
			case "delete", "clear", "copy":
				add(x.Args[0], true)
			case "":
				if l.isCall(x) {
					for p := range l.changedBy(x, l.pack[body]) {
						all[p] = struct{}{}
					}
				}
			}
		}
		return true
	})
}
