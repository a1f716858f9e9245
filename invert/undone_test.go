package invert_test

import (
	"fmt"
	"math/rand"
	"slices"
	"strings"
	"testing"

	"counterpane/api"
	"counterpane/invert"
	"counterpane/prim"
	"counterpane/tree"
)

func dir(p string) api.Entry { return api.Entry{Path: p, Kind: api.KindDir} }

func text(p string, l ...string) api.Entry {
	return api.Entry{Path: p, Kind: api.KindText, Lines: l}
}

func data(p, b string) api.Entry { return api.Entry{Path: p, Kind: api.KindData, Data: b} }

// plain is a patch of a kind that names nothing but a path.
func plain(kind int, p string) api.Prim { return api.Prim{Kind: kind, Path: p} }

func linesOf(p string, at int, old, now []string) api.Prim {
	return api.Prim{Kind: api.Lines, Path: p, At: at, Old: old, New: now}
}

func token(p, from, to string) api.Prim {
	return api.Prim{Kind: api.Token, Path: p, From: from, To: to}
}

func bytesOf(p, from, to string) api.Prim {
	return api.Prim{Kind: api.Bytes, Path: p, From: from, To: to}
}

func moved(p, to string) api.Prim { return api.Prim{Kind: api.Move, Path: p, To: to} }

func alikePatch(p, q api.Prim) bool {
	return p.Kind == q.Kind && p.Path == q.Path && p.To == q.To && p.From == q.From && p.At == q.At && slices.Equal(p.Old, q.Old) && slices.Equal(p.New, q.New)
}

func alikeRow(l, m []api.Prim) bool { return slices.EqualFunc(l, m, alikePatch) }

// alike tells whether two trees are the same.
func alike(l, m []api.Entry) bool {
	return slices.EqualFunc(l, m, func(x, y api.Entry) bool {
		return x.Path == y.Path && x.Kind == y.Kind && x.Data == y.Data && slices.Equal(x.Lines, y.Lines)
	})
}

// show tells something, at least its beginning.
func show(what any) string { return fmt.Sprintf("%.300s", fmt.Sprintf("%+v", what)) }

// undone asks P9.2 of a patch that can be done on a tree, and tells what it makes.
func undone(t *testing.T, l []api.Entry, p api.Prim) ([]api.Entry, bool) {
	t.Helper()
	made, e := prim.Apply(l, p)
	if e != api.OK {
		return nil, false
	}
	back, e := prim.Apply(made, invert.Invert(p))
	if e != api.OK || !alike(back, l) {
		t.Fatalf("%s on %s, undone, is %s, %d", show(p), show(l), show(back), e)
	}
	rightAndBack(t, p)
	return made, true
}

// undoneRow asks P9.2 of a row that makes one tree of another one.
func undoneRow(t *testing.T, l []api.Entry, row []api.Prim, made []api.Entry) {
	t.Helper()
	back, e, place := prim.All(made, invert.All(row))
	if e != api.OK || !alike(back, l) {
		t.Fatalf("%s on %s, undone, is %s, %d at %d", show(row), show(l), show(back), e, place)
	}
}

// full is a tree of as many things as there may be, with an empty one of each kind.
func full() []api.Entry {
	l := []api.Entry{dir("d")}
	for i := range api.MaxEntries - 4 {
		l = append(l, text(fmt.Sprintf("d/%04d", i), "x"))
	}
	return append(l, dir("e"), text("t"), data("u", ""))
}

// chain is directories in one another, n deep.
func chain(n int) []api.Entry {
	var l []api.Entry
	for i := range n {
		l = append(l, dir("d"+strings.Repeat("/d", i)))
	}
	return l
}

func TestUndoneByHand(t *testing.T) {
	x := []string{"x"}
	some := []api.Entry{dir("a"), text("a-", "x y", "", "x"), text("a/b", "x"), data("c", "x"), text("e")}
	for _, c := range []struct {
		l []api.Entry
		p api.Prim
	}{
		{nil, plain(api.AddDir, "a")}, {nil, plain(api.AddText, "a")}, {nil, plain(api.AddData, "a")},
		{some, plain(api.AddText, "a/c")}, {some, plain(api.RmText, "e")},
		{full(), plain(api.RmDir, "e")}, {full(), plain(api.RmText, "t")}, {full(), plain(api.RmData, "u")},
		{full()[:api.MaxEntries-1], plain(api.AddDir, "e/d")}, {full()[:api.MaxEntries-1], plain(api.AddText, "d/t")}, {full()[:api.MaxEntries-1], plain(api.AddData, "u")},
		{full(), moved("d", "e/d")}, {full(), moved("d", "a")},
		{some, linesOf("a-", 0, []string{"x y", "", "x"}, nil)}, {some, linesOf("a-", 3, nil, x)}, {some, linesOf("a-", 2, x, []string{"x", "x"})}, {some, linesOf("a-", 1, []string{""}, []string{""})}, {some, linesOf("e", 0, nil, []string{""})},
		{some, token("a-", "x", "z")}, {some, token("a-", "none", "z")}, {some, token("a-", "x", "xx")}, {some, token("e", "x", "y")},
		{some, bytesOf("c", "x", "")}, {some, bytesOf("c", "x", "\x00\n")},
		{some, moved("a/b", "b")}, {some, moved("a", "b")}, {some, moved("c", "a/c")}, {some, moved("a/b", "a/b.c")},
		{chain(api.MaxDeep), moved("d/d", "e")}, {append(chain(api.MaxDeep-1), text("e")), moved("e", strings.Repeat("d/", api.MaxDeep-1)+"e")},
	} {
		if _, is := undone(t, c.l, c.p); !is {
			t.Errorf("%s on %s cannot be done", show(c.p), show(c.l))
		}
	}
}

// shortTrees are all trees of some few things.
func shortTrees() [][]api.Entry {
	of := [][]api.Entry{
		{dir("a"), text("a"), text("a", "x"), data("a", ""), data("a", "x")},
		{text("a-", "x y")},
		{dir("a/b"), text("a/b", "y", "x"), data("a/b", "y")},
		{text("a/b/c", "x")},
		{dir("b"), text("b"), data("b", ""), data("b", "x")},
		{text("b/a"), dir("b/a")},
	}
	all := [][]api.Entry{nil}
	for _, choice := range of {
		for _, l := range all {
			for _, x := range choice {
				if m := append(l[:len(l):len(l)], x); tree.Right(m) {
					all = append(all, m)
				}
			}
		}
	}
	return all
}

// shortPatches are patches of all kinds, of the paths of shortTrees and others.
func shortPatches() []api.Prim {
	paths := []string{"a", "a-", "a/b", "a/b/c", "b", "b/a", "c", "b/c"}
	var l []api.Prim
	for _, p := range paths {
		for kind := api.AddDir; kind <= api.RmData; kind++ {
			l = append(l, plain(kind, p))
		}
		for at := range 4 {
			for _, old := range [][]string{nil, {"x"}, {"y", "x"}, {""}} {
				l = append(l, linesOf(p, at, old, nil), linesOf(p, at, old, []string{"z"}), linesOf(p, at, old, []string{"x", "y"}))
			}
		}
		for _, from := range []string{"", "x", "y", "z"} {
			for _, to := range []string{"", "x", "y", "z"} {
				l = append(l, token(p, from, to), bytesOf(p, from, to))
			}
		}
		for _, to := range paths {
			l = append(l, moved(p, to))
		}
	}
	return l
}

// seenAll asks for so many patches of each kind that were done.
func seenAll(t *testing.T, kinds map[int]int, least int) {
	t.Helper()
	for kind := api.AddDir; kind <= api.Move; kind++ {
		if kinds[kind] < least {
			t.Errorf("only %d of kind %d were done", kinds[kind], kind)
		}
	}
}

func TestShortTreesUndone(t *testing.T) {
	kinds := map[int]int{}
	patches := shortPatches()
	for _, l := range shortTrees() {
		for _, p := range patches {
			if _, is := undone(t, l, p); is {
				kinds[p.Kind]++
			}
		}
	}
	seenAll(t, kinds, 10)
}

// TestShortRowsUndone has all rows of two patches on short trees, so that each stands behind each.
func TestShortRowsUndone(t *testing.T) {
	patches := shortPatches()
	pairs := map[[2]int]int{}
	for _, l := range shortTrees() {
		for _, p := range patches {
			made, e := prim.Apply(l, p)
			if e != api.OK {
				continue
			}
			for _, q := range patches {
				if last, e := prim.Apply(made, q); e == api.OK {
					undoneRow(t, l, []api.Prim{p, q}, last)
					pairs[[2]int{p.Kind, q.Kind}]++
				}
			}
		}
	}
	if len(pairs) != api.Move*api.Move {
		t.Errorf("only %d kinds stood behind kinds", len(pairs))
	}
}

func pick[T any](r *rand.Rand, l ...T) T { return l[r.Intn(len(l))] }

// anyPatch is one that may well be done on l.
func anyPatch(r *rand.Rand, l []api.Entry) api.Prim {
	x := api.Entry{Path: "a", Kind: api.KindDir}
	if len(l) > 0 {
		x = pick(r, l...)
	}
	in := pick(r, "a", "b", "a.", "c")
	if len(l) > 0 && r.Intn(3) > 0 {
		in = pick(r, l...).Path + "/" + in
	}
	words := []string{"x", "y", "z", "x+y", ""}
	switch n := r.Intn(10); {
	case n < 3:
		return plain(pick(r, api.AddDir, api.AddText, api.AddData), in)
	case n == 3 || n > 4 && x.Kind == api.KindDir:
		return moved(x.Path, in)
	case n == 4:
		return plain(2*x.Kind, x.Path)
	case x.Kind == api.KindData:
		return bytesOf(x.Path, x.Data, pick(r, words...))
	case n < 8:
		return anyLines(r, x, words)
	}
	return token(x.Path, pick(r, words...), pick(r, words...))
}

// anyLines is a Lines that fits a text.
func anyLines(r *rand.Rand, x api.Entry, words []string) api.Prim {
	at := r.Intn(len(x.Lines) + 1)
	to := at + r.Intn(len(x.Lines)-at+1)
	var now []string
	for range r.Intn(3) {
		now = append(now, pick(r, words...))
	}
	return linesOf(x.Path, at, slices.Clone(x.Lines[at:to]), now)
}

// TestLongRowsUndone undoes whole rows, and what was done last of them.
func TestLongRowsUndone(t *testing.T) {
	r := rand.New(rand.NewSource(9))
	kinds := map[int]int{}
	for range 400 {
		var row []api.Prim
		trees := [][]api.Entry{nil}
		for range 120 {
			last := trees[len(trees)-1]
			p := anyPatch(r, last)
			if made, is := undone(t, last, p); is {
				kinds[p.Kind]++
				row, trees = append(row, p), append(trees, made)
			}
		}
		for _, from := range []int{0, r.Intn(len(row) + 1), len(row)} {
			undoneRow(t, trees[from], row[from:], trees[len(row)])
		}
	}
	seenAll(t, kinds, 300)
}
