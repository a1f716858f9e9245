package prim_test

import (
	"fmt"
	"math"
	"slices"
	"strings"
	"testing"

	"counterpane/api"
	"counterpane/prim"
)

// some is a tree with things of all kinds, empty ones and others; by bytes `a-b` stands ahead of `a/c`, and `a.` too.
func some() []api.Entry {
	return []api.Entry{
		dir("a"), data("a-b", "\x00"), text("a."), text("a/c", "x y", "", "z"), dir("a/d"), data("a/d/e", "\n"), dir("a0"), text("ab", "a/c"), data("b", ""), text("c", "one", "two", "one"), dir("e"), dir("e/f"),
	}
}

// chain is directories in one another, n deep, and what lies in the last.
func chain(n int, more ...api.Entry) []api.Entry {
	var l []api.Entry
	p := ""
	for range n {
		p += "d"
		l = append(l, dir(p))
		p += "/"
	}
	for _, x := range more {
		x.Path = p + x.Path
		l = append(l, x)
	}
	return l
}

// full is a tree of as many things as there may be: a directory with texts, an empty text, data.
func full() []api.Entry {
	l := []api.Entry{dir("d")}
	for i := range api.MaxEntries - 3 {
		l = append(l, text(fmt.Sprintf("d/%04d", i), "x"))
	}
	return append(l, text("t"), data("u", "x"))
}

// rightOnes are patches of all kinds, at their edges.
func rightOnes() []api.Prim {
	part := strings.Repeat("p", api.MaxPart)
	deep := strings.Repeat(part+"/", api.MaxDeep-1) + part
	l := []api.Prim{
		linesOf("a", 0, []string{"x"}, nil), linesOf("a", 0, nil, []string{"x"}), linesOf("a", 0, []string{}, []string{""}), linesOf("a", 0, []string{""}, []string{}), linesOf("a", 1, []string{"x"}, []string{"x"}),
		linesOf("a", api.MaxAt, []string{"x"}, []string{"y", "z"}), linesOf(deep, 1, []string{"\x00\xff\r"}, []string{"é"}),
		token("a", "a", "b"), token("a", "A", "a"), token(deep, "_", "0"), token("a", "aZ09_", strings.Repeat("z", 1<<16)), token("a", "a", "aa"),
		bytesOf("a", "", "x"), bytesOf("a", "x", ""), bytesOf(deep, "\n", "\x00\xff"), bytesOf("a", "a", "a/b"),
		moved("a", "b"), moved("a/b", "b"), moved("a", "b/a"), moved("a/b", "a/c"), moved("a", "ab"), moved("a/b", "a/b.c"), moved("a", deep), moved(deep, "a"),
		{Kind: api.Move, Path: "a", To: "b", Old: []string{}, New: []string{}}, {Kind: api.Bytes, Path: "a", To: "b", Old: []string{}, New: []string{}},
	}
	for kind := api.AddDir; kind <= api.RmData; kind++ {
		l = append(l, plain(kind, "a"), plain(kind, "a/b.c/-_0"), plain(kind, deep), plain(kind, "..."), api.Prim{Kind: kind, Path: "a", Old: []string{}, New: []string{}})
	}
	return l
}

// wrongOnes are patches that are not right, each of them by one fault.
func wrongOnes() []api.Prim {
	var l []api.Prim
	for _, kind := range []int{math.MinInt, -1 << 32, -7, -1, 0, 11, 12, 256, 257, 1<<32 + 1, math.MaxInt} {
		l = append(l, plain(kind, "a"))
	}
	x := []string{"x"}
	paths := []string{"", "/", "/a", "a/", "a//b", ".", "..", "a/..", "a/../b", "A", "a b", "a\n", "\xff", "é", "a/b/c/d/e/f/g/h/i", strings.Repeat("p", api.MaxPart+1)}
	for _, p := range paths {
		for kind := api.AddDir; kind <= api.RmData; kind++ {
			l = append(l, plain(kind, p))
		}
		l = append(l, linesOf(p, 0, x, nil), token(p, "a", "b"), bytesOf(p, "a", "b"), moved(p, "z"), moved("z", p))
	}
	for kind := api.AddDir; kind <= api.RmData; kind++ {
		l = append(l, api.Prim{Kind: kind, Path: "a", To: "b"}, api.Prim{Kind: kind, Path: "a", From: "b"})
	}
	// Fields that Lines alone names, or those of another kind, stay zero; an empty line is one.
	for kind := api.AddDir; kind <= api.Move; kind++ {
		p := api.Prim{Kind: kind, Path: "a"}
		if kind > api.Lines {
			p.To = "b"
		}
		if kind == api.Token || kind == api.Bytes {
			p.From = "c"
		}
		if kind == api.Lines {
			p.Old = x
			l = append(l, with(p, func(p *api.Prim) { p.To = "b" }), with(p, func(p *api.Prim) { p.From = "b" }))
			continue
		}
		for _, at := range []int{1, -1, api.MaxAt, math.MinInt, math.MaxInt} {
			l = append(l, with(p, func(p *api.Prim) { p.At = at }))
		}
		l = append(l, with(p, func(p *api.Prim) { p.Old = x }), with(p, func(p *api.Prim) { p.New = x }), with(p, func(p *api.Prim) { p.Old = []string{""} }), with(p, func(p *api.Prim) { p.New = []string{""} }))
	}
	return append(l,
		linesOf("a", 0, nil, nil), linesOf("a", 0, []string{}, []string{}), linesOf("a", 3, nil, nil),
		linesOf("a", -1, x, nil), linesOf("a", api.MaxAt+1, x, nil), linesOf("a", math.MinInt, x, nil), linesOf("a", math.MaxInt, x, nil), linesOf("a", 1<<32, x, nil),
		linesOf("a", 0, []string{"x\n"}, nil), linesOf("a", 0, nil, []string{"x", "\n"}), linesOf("a", 0, x, []string{"\nx", "x"}), linesOf("a", 0, []string{"x", "y\nz"}, x),
		token("a", "a", "a"), token("a", "", "a"), token("a", "a", ""), token("a", "", ""), token("a", "a b", "a"), token("a", "a", "a b"), token("a", "+", "a"), token("a", "a", "+"), token("a", "é", "a"), token("a", "a", "a\n"), token("a", "a-", "a"),
		bytesOf("a", "", ""), bytesOf("a", "x", "x"), bytesOf("a", "\n", "\n"),
		moved("a", "a"), moved("a", "a/b"), moved("a/b", "a"), moved("a/b/c", "a"), moved("a", "a/b/c"), api.Prim{Kind: api.Move, Path: "a", To: "b", From: "a"})
}

// with is a patch that is changed by f.
func with(p api.Prim, f func(p *api.Prim)) api.Prim {
	f(&p)
	return p
}

func TestRightByHand(t *testing.T) {
	for _, p := range rightOnes() {
		if !rightByWords(p) || !prim.Right(p) {
			t.Errorf("not right: %s", show(p))
		}
	}
	for _, p := range wrongOnes() {
		if rightByWords(p) || prim.Right(p) {
			t.Errorf("right: %s", show(p))
		}
	}
}

// TestRightOfAllFields has what each field may be, and may not, beside all others.
func TestRightOfAllFields(t *testing.T) {
	texts := []string{"", "a", "b", "a/b", "b+", ".."}
	lists := [][]string{nil, {}, {"x"}, {""}, {"x", "y\n"}}
	count := map[bool]int{}
	for kind := -1; kind <= api.Move+1; kind++ {
		for _, p := range []string{"", "a", "a/b", "c", "A", ".."} {
			for _, to := range texts {
				for _, from := range texts {
					for _, at := range []int{-1, 0, 1, api.MaxAt, api.MaxAt + 1} {
						for i := range len(lists) * len(lists) {
							x := api.Prim{Kind: kind, Path: p, To: to, From: from, At: at, Old: lists[i/len(lists)], New: lists[i%len(lists)]}
							want := rightByWords(x)
							if prim.Right(x) != want {
								t.Fatalf("Right of %s is not %v", show(x), want)
							}
							count[want]++
						}
					}
				}
			}
		}
	}
	if count[true] < 500 || count[false] < 500 {
		t.Fatalf("%v", count)
	}
}

func wantApply(t *testing.T, l []api.Entry, p api.Prim, want []api.Entry, wanted api.Errno) {
	t.Helper()
	made, e := prim.Apply(l, p)
	if e != wanted || !alike(made, want) {
		t.Errorf("Apply of %s is %s, %d; want %s, %d", show(p), show(made), e, show(want), wanted)
	}
}

// TestApplyByHand has each kind, done.
func TestApplyByHand(t *testing.T) {
	one := []api.Entry{text("a", "x")}
	for _, c := range []struct {
		l    []api.Entry
		p    api.Prim
		want []api.Entry
	}{
		{one, linesOf("a", 0, []string{"x"}, []string{"y", "z"}), []api.Entry{text("a", "y", "z")}},
		{nil, plain(api.AddDir, "a"), []api.Entry{dir("a")}},
		{nil, plain(api.AddText, "a"), []api.Entry{text("a")}},
		{nil, plain(api.AddData, "a"), []api.Entry{data("a", "")}},
		{[]api.Entry{dir("a")}, plain(api.RmDir, "a"), nil},
		{[]api.Entry{text("a")}, plain(api.RmText, "a"), nil},
		{[]api.Entry{data("a", "")}, plain(api.RmData, "a"), nil},
		// By bytes `a-` and `a.` stand ahead of what lies in `a`, `a0` behind that.
		{[]api.Entry{dir("a"), text("a-"), text("a0")}, plain(api.AddText, "a/b"), []api.Entry{dir("a"), text("a-"), text("a/b"), text("a0")}},
		{[]api.Entry{dir("a"), text("a/b")}, plain(api.AddDir, "a."), []api.Entry{dir("a"), dir("a."), text("a/b")}},
		{[]api.Entry{dir("a"), text("a/b")}, plain(api.AddData, "0"), []api.Entry{data("0", ""), dir("a"), text("a/b")}},
		// What begins with the path, or stands behind it, does not lie in it.
		{[]api.Entry{dir("a"), dir("a-b"), text("a-b/c"), text("ab", "x")}, plain(api.RmDir, "a"), []api.Entry{dir("a-b"), text("a-b/c"), text("ab", "x")}},
		{[]api.Entry{dir("a"), dir("a/b"), dir("a/c")}, plain(api.RmDir, "a/b"), []api.Entry{dir("a"), dir("a/c")}},
		{one, linesOf("a", 1, nil, []string{"y"}), []api.Entry{text("a", "x", "y")}},
		{one, linesOf("a", 0, nil, []string{"", "y"}), []api.Entry{text("a", "", "y", "x")}},
		{one, linesOf("a", 0, []string{"x"}, nil), []api.Entry{text("a")}},
		{one, linesOf("a", 0, []string{"x"}, []string{"x"}), one},
		{[]api.Entry{text("a", "1", "2", "3")}, linesOf("a", 1, []string{"2"}, nil), []api.Entry{text("a", "1", "3")}},
		{[]api.Entry{text("a", "x1+=y", "y", "", "yy y-y")}, token("a", "y", "z"), []api.Entry{text("a", "x1+=z", "z", "", "yy z-z")}},
		{[]api.Entry{text("a", "x zz", "z_")}, token("a", "x", "z"), []api.Entry{text("a", "z zz", "z_")}},
		{one, token("a", "q", "z"), one}, {[]api.Entry{text("a")}, token("a", "q", "z"), []api.Entry{text("a")}},
		{[]api.Entry{data("a", "x")}, bytesOf("a", "x", "\n\xff"), []api.Entry{data("a", "\n\xff")}},
		{[]api.Entry{data("a", "")}, bytesOf("a", "", "x"), []api.Entry{data("a", "x")}},
		{[]api.Entry{data("a", "x")}, bytesOf("a", "x", ""), []api.Entry{data("a", "")}},
		{one, moved("a", "b"), []api.Entry{text("b", "x")}},
		{[]api.Entry{data("b", "x")}, moved("b", "a"), []api.Entry{data("a", "x")}},
		{[]api.Entry{dir("a"), data("a-b", "x"), dir("a/b"), text("a/b/c", "x"), text("ab"), dir("d")}, moved("a", "d/a"), []api.Entry{data("a-b", "x"), text("ab"), dir("d"), dir("d/a"), dir("d/a/b"), text("d/a/b/c", "x")}},
		{[]api.Entry{dir("a"), dir("a/b"), text("a/b/c", "x")}, moved("a/b", "b"), []api.Entry{dir("a"), dir("b"), text("b/c", "x")}},
		{[]api.Entry{dir("a"), text("a/b", "x")}, moved("a/b", "a/c"), []api.Entry{dir("a"), text("a/c", "x")}},
		{[]api.Entry{dir("a"), text("a/a"), text("a/b")}, moved("a", "b"), []api.Entry{dir("b"), text("b/a"), text("b/b")}},
		{[]api.Entry{dir("a"), text("a/t"), text("b-")}, moved("a", "b"), []api.Entry{dir("b"), text("b-"), text("b/t")}},
	} {
		wantApply(t, c.l, c.p, c.want, api.OK)
	}
}

// TestErrorsByHand: of several errors that apply the first that is named is told.
func TestErrorsByHand(t *testing.T) {
	for _, kind := range []int{api.AddDir, api.AddText, api.AddData} {
		for _, at := range []string{"a", "a/c", "b", "ab", "e/f"} {
			wantApply(t, some(), plain(kind, at), nil, api.ErrThere)
		}
		for at, e := range map[string]api.Errno{"q/r": api.ErrGone, "a/q/r": api.ErrGone, "q/r/s": api.ErrGone, "ab/c": api.ErrKind, "b/c": api.ErrKind, "ab/c/d": api.ErrGone, "a/c/d": api.ErrKind} {
			wantApply(t, some(), plain(kind, at), nil, e)
		}
		wantApply(t, nil, plain(kind, "a/b"), nil, api.ErrGone)
		for at, e := range map[string]api.Errno{"d": api.ErrThere, "t": api.ErrThere, "q/r": api.ErrGone, "t/r": api.ErrKind, "u/r": api.ErrKind, "q": api.ErrTooMany, "d/q": api.ErrTooMany} {
			wantApply(t, full(), plain(kind, at), nil, e)
		}
	}
	for _, c := range []struct {
		p api.Prim
		e api.Errno
	}{
		{plain(api.RmDir, "q"), api.ErrGone}, {plain(api.RmText, "a/q"), api.ErrGone}, {plain(api.RmData, "q/r"), api.ErrGone}, {plain(api.RmDir, "ab/c"), api.ErrGone},
		{plain(api.RmDir, "ab"), api.ErrKind}, {plain(api.RmDir, "b"), api.ErrKind}, {plain(api.RmText, "a"), api.ErrKind}, {plain(api.RmText, "a-b"), api.ErrKind}, {plain(api.RmData, "a."), api.ErrKind}, {plain(api.RmData, "e/f"), api.ErrKind},
		{plain(api.RmDir, "a"), api.ErrSame}, {plain(api.RmDir, "a/d"), api.ErrSame}, {plain(api.RmDir, "e"), api.ErrSame}, {plain(api.RmText, "ab"), api.ErrSame}, {plain(api.RmData, "a-b"), api.ErrSame}, {plain(api.RmData, "a/d/e"), api.ErrSame},
		{linesOf("q", 0, nil, []string{"x"}), api.ErrGone}, {linesOf("a", 0, nil, []string{"x"}), api.ErrKind}, {linesOf("b", 0, nil, []string{"x"}), api.ErrKind},
		{linesOf("c", 0, []string{"two"}, nil), api.ErrSame}, {linesOf("c", 4, nil, []string{"x"}), api.ErrSame}, {linesOf("c", 2, []string{"one", "two"}, nil), api.ErrSame}, {linesOf("c", api.MaxAt, nil, []string{"x"}), api.ErrSame}, {linesOf("c", 3, []string{"one"}, nil), api.ErrSame},
		{token("q", "x", "y"), api.ErrGone}, {token("e", "x", "y"), api.ErrKind}, {token("b", "x", "y"), api.ErrKind},
		{token("c", "one", "two"), api.ErrSame}, {token("c", "q", "one"), api.ErrSame}, {token("a/c", "x", "z"), api.ErrSame}, {token("ab", "q", "c"), api.ErrSame},
		{bytesOf("q", "", "x"), api.ErrGone}, {bytesOf("a", "", "x"), api.ErrKind}, {bytesOf("a.", "", "x"), api.ErrKind},
		{bytesOf("b", "x", ""), api.ErrSame}, {bytesOf("a-b", "", "x"), api.ErrSame}, {bytesOf("a/d/e", "\n\n", "\n"), api.ErrSame},
		{moved("q", "r"), api.ErrGone}, {moved("q", "c"), api.ErrGone}, {moved("q", "r/s"), api.ErrGone}, {moved("a/q", "c/r"), api.ErrGone},
		{moved("a", "c"), api.ErrThere}, {moved("c", "a/c"), api.ErrThere}, {moved("a", "e/f"), api.ErrThere}, {moved("b", "a."), api.ErrThere},
		{moved("a", "q/r"), api.ErrGone}, {moved("c", "a/q/r"), api.ErrGone}, {moved("c", "ab/q/r"), api.ErrGone},
		{moved("a", "ab/c"), api.ErrKind}, {moved("c", "a/c/d"), api.ErrKind}, {moved("c", "b/c"), api.ErrKind}, {moved("a/c", "a/d/e/f"), api.ErrKind},
	} {
		wantApply(t, some(), c.p, nil, c.e)
	}
}

// TestMoveTooDeep: what lies in a thing may be too deep where it is moved to, although the thing itself is not.
func TestMoveTooDeep(t *testing.T) {
	l := append(chain(api.MaxDeep-1), dir("e"), dir("e/e"), text("t"), data("u", ""))
	seven := strings.Repeat("d/", api.MaxDeep-1)
	wantApply(t, l, moved("t", seven+"t"), applied(l, moved("t", seven+"t")), api.OK)
	wantApply(t, l, moved("e/e", seven+"e"), applied(l, moved("e/e", seven+"e")), api.OK)
	wantApply(t, l, moved("e", seven+"e"), nil, api.ErrPath)
	wantApply(t, l, moved("d", "e/d"), applied(l, moved("d", "e/d")), api.OK)
	wantApply(t, l, moved("d", "e/e/d"), nil, api.ErrPath)
	// One that is named ahead of that is told.
	wantApply(t, l, moved("d", "e/e"), nil, api.ErrThere)
	wantApply(t, l, moved("d", "e/e/q/d"), nil, api.ErrGone)
	wantApply(t, append(l[:len(l):len(l)], text("v")), moved("d", "v/d"), nil, api.ErrKind)
	wantApply(t, l, moved("e", seven+"d"+"/e"), nil, api.ErrArg)
	// Of many things in it one that is too deep is enough.
	wide := []api.Entry{dir("a"), dir("a/b"), dir("a/c"), dir("a/c/d"), dir("a/e"), dir("z")}
	for p, n := "z", 1; n < api.MaxDeep-2; n++ {
		p += "/z"
		wide = append(wide, dir(p))
	}
	wantApply(t, wide, moved("a", wide[len(wide)-1].Path+"/a"), nil, api.ErrPath)
	wantApply(t, wide, moved("a", wide[len(wide)-2].Path+"/a"), applied(wide, moved("a", wide[len(wide)-2].Path+"/a")), api.OK)
}

// applied is what the words make of a tree.
func applied(l []api.Entry, p api.Prim) []api.Entry {
	m, _ := applyByWords(l, p)
	return m
}

// TestFullTree: but for those that add, all can be done where no more things may be.
func TestFullTree(t *testing.T) {
	l := full()
	if len(l) != api.MaxEntries || !treeByWords(l) {
		t.Fatal("no full tree")
	}
	for _, p := range []api.Prim{moved("d", "a"), moved("t", "d/t"), plain(api.RmText, "t"), bytesOf("u", "x", ""), linesOf("t", 0, nil, []string{"x"}), token("d/0000", "x", "y")} {
		wantApply(t, l, p, applied(l, p), api.OK)
	}
	for _, kind := range []int{api.AddDir, api.AddText, api.AddData} {
		p := plain(kind, "d/q")
		wantApply(t, l[:len(l)-1], p, applied(l[:len(l)-1], p), api.OK)
		wantApply(t, l, p, nil, api.ErrTooMany)
	}
}

// noTrees are lists that are none, each of them by one fault.
func noTrees() map[string][]api.Entry {
	return map[string][]api.Entry{
		"one too many":            byPath(append(full(), text("v"))),
		"no path":                 {dir("")},
		"a slash behind":          {dir("a"), dir("a/")},
		"two dots":                {dir(".."), text("../a")},
		"too deep":                chain(api.MaxDeep + 1),
		"falling":                 {dir("b"), dir("a")},
		"falling by bytes":        {dir("a"), text("a/c"), text("a-b")},
		"twice":                   {dir("a"), dir("a")},
		"a kind below":            {{Path: "a"}},
		"a kind above":            {{Path: "a", Kind: 4}},
		"a line with an end":      {text("a", "x\n")},
		"a directory with a line": {{Path: "a", Kind: 1, Lines: []string{""}}},
		"a directory with data":   {{Path: "a", Kind: 1, Data: "x"}},
		"a text with data":        {{Path: "a", Kind: 2, Data: "x"}},
		"data with a line":        {{Path: "a", Kind: 3, Lines: []string{"x"}}},
		"no parent":               {text("a/b")},
		"a text for a parent":     {text("a"), text("a/b")},
		"one at the end":          append(some(), dir("z/z")),
	}
}

func TestNoTreeOrNoPatch(t *testing.T) {
	for what, l := range noTrees() {
		if treeByWords(l) {
			t.Errorf("%s: a tree", what)
		}
		for _, p := range append(rightOnes(), api.Prim{}, plain(api.AddDir, "new"), moved("a", "new"), plain(api.RmDir, "z/z")) {
			wantApply(t, l, p, nil, api.ErrArg)
		}
		for _, ps := range [][]api.Prim{nil, {}, {plain(api.AddDir, "new")}, {plain(api.AddDir, "new"), {}}, {{}}} {
			wantAll(t, l, ps, nil, api.ErrArg, 0)
		}
	}
	for _, p := range wrongOnes() {
		for _, l := range [][]api.Entry{nil, some(), full(), {text("a", "x")}, {data("a", "x")}, {dir("a")}} {
			wantApply(t, l, p, nil, api.ErrArg)
		}
		wantAll(t, some(), []api.Prim{plain(api.AddDir, "new"), plain(api.RmDir, "new"), p, {}, plain(api.AddDir, "a")}, nil, api.ErrArg, 2)
	}
}

func wantAll(t *testing.T, l []api.Entry, ps []api.Prim, want []api.Entry, wanted api.Errno, place int) {
	t.Helper()
	made, e, at := prim.All(l, ps)
	if e != wanted || at != place || !alike(made, want) {
		t.Errorf("All of %s is %s, %d, %d; want %s, %d, %d", show(ps), show(made), e, at, show(want), wanted, place)
	}
}

func TestAllByHand(t *testing.T) {
	steps := []api.Prim{
		plain(api.AddDir, "a"), plain(api.AddText, "a/t"), linesOf("a/t", 0, nil, []string{"x", "y"}), token("a/t", "x", "z"), plain(api.AddData, "u"), bytesOf("u", "", "1"), moved("a", "b"), linesOf("b/t", 1, []string{"y"}, nil),
	}
	made := []api.Entry{dir("b"), text("b/t", "z"), data("u", "1")}
	wantAll(t, nil, steps, made, api.OK, 0)
	wantAll(t, nil, nil, nil, api.OK, 0)
	wantAll(t, some(), nil, some(), api.OK, 0)
	wantAll(t, some(), []api.Prim{}, some(), api.OK, 0)
	wantAll(t, nil, steps[1:], nil, api.ErrGone, 0)
	wantAll(t, nil, append(steps[:len(steps):len(steps)], plain(api.RmText, "b/t"), api.Prim{}), nil, api.ErrSame, len(steps))
	wantAll(t, nil, append(steps[:len(steps):len(steps)], api.Prim{}, plain(api.RmText, "b/t")), nil, api.ErrArg, len(steps))
	wantAll(t, nil, append(steps[:3:3], steps[1:]...), nil, api.ErrThere, 3)
	// A later one is done on what the ones ahead have made.
	wantAll(t, made, []api.Prim{linesOf("b/t", 0, []string{"z"}, nil), plain(api.RmText, "b/t"), plain(api.RmDir, "b"), bytesOf("u", "1", ""), plain(api.RmData, "u")}, nil, api.OK, 0)
	wantAll(t, full(), []api.Prim{plain(api.RmText, "t"), plain(api.AddText, "t"), plain(api.AddText, "tt")}, nil, api.ErrTooMany, 2)
	wantAll(t, full(), slices.Repeat([]api.Prim{plain(api.RmText, "t"), plain(api.AddText, "t")}, 100), full(), api.OK, 0)
}

// TestMuch: texts and rows that are long.
func TestMuch(t *testing.T) {
	long := slices.Repeat([]string{"a b", ""}, 1<<17)
	other := slices.Repeat([]string{"c b", ""}, 1<<17)
	l := []api.Entry{text("t", long...), data("u", strings.Repeat("x", 1<<22))}
	wantApply(t, l, token("t", "a", "c"), []api.Entry{text("t", other...), l[1]}, api.OK)
	wantApply(t, l, token("t", "a", "b"), nil, api.ErrSame)
	wantApply(t, l, linesOf("t", 0, long, other), []api.Entry{text("t", other...), l[1]}, api.OK)
	wantApply(t, l, linesOf("t", 1, long, other), nil, api.ErrSame)
	wantApply(t, l, linesOf("t", len(long), nil, []string{"end"}), []api.Entry{text("t", append(long[:len(long):len(long)], "end")...), l[1]}, api.OK)
	wantApply(t, l, bytesOf("u", l[1].Data, ""), []api.Entry{l[0], data("u", "")}, api.OK)
	wantApply(t, l, bytesOf("u", l[1].Data+"x", ""), nil, api.ErrSame)
	row := slices.Repeat([]api.Prim{linesOf("t", 0, nil, []string{"x"}), linesOf("t", 0, []string{"x"}, nil)}, 20000)
	wantAll(t, []api.Entry{text("t", "y")}, append(row, plain(api.RmText, "t")), nil, api.ErrSame, len(row))
}
