package commute_test

import (
	"fmt"
	"math/rand"
	"slices"
	"testing"

	"counterpane/api"
	"counterpane/commute"
	"counterpane/prim"
	"counterpane/tree"
)

func dir(p string) api.Entry { return api.Entry{Path: p, Kind: api.KindDir} }

func text(p string, l ...string) api.Entry {
	return api.Entry{Path: p, Kind: api.KindText, Lines: l}
}

func data(p, b string) api.Entry { return api.Entry{Path: p, Kind: api.KindData, Data: b} }

// alike tells whether two trees are the same.
func alike(l, m []api.Entry) bool {
	return slices.EqualFunc(l, m, func(x, y api.Entry) bool {
		return x.Path == y.Path && x.Kind == y.Kind && x.Data == y.Data && slices.Equal(x.Lines, y.Lines)
	})
}

// same asks P10.2 and P10.3 of p and q, which made a tree of l one behind the other, and tells whether they can be commuted.
func same(t *testing.T, l []api.Entry, p, q api.Prim, made []api.Entry) bool {
	t.Helper()
	a, b, is := commute.Commute(p, q)
	if !is {
		return false
	}
	got, e, place := prim.All(l, []api.Prim{a, b})
	if e != api.OK || !alike(got, made) {
		t.Fatalf("%s and %s, on %s, are %s and %s, and make %s, %d at %d; want %s", show(p), show(q), show(l), show(a), show(b), show(got), e, place, show(made))
	}
	back(t, p, q, a, b)
	return true
}

// passed asks P10.4 of p and a row behind it, which made a tree of l, and tells whether p can pass them.
func passed(t *testing.T, l []api.Entry, p api.Prim, row []api.Prim, made []api.Entry) bool {
	t.Helper()
	ahead, behind, is := commute.Past(p, row)
	if !is {
		return false
	}
	got, e, place := prim.All(l, append(slices.Clone(ahead), behind))
	if len(ahead) != len(row) || e != api.OK || !alike(got, made) {
		t.Fatalf("%s and %s, on %s, are %s and %s, and make %s, %d at %d; want %s", show(p), show(row), show(l), show(ahead), show(behind), show(got), e, place, show(made))
	}
	for i, q := range slices.Backward(ahead) {
		first, second, is := commute.Commute(q, behind)
		if !is || !alikePatch(second, row[i]) {
			t.Fatalf("%s, behind %s, does not go back past the one at %d: %s", show(behind), show(ahead), i, show(second))
		}
		behind = first
	}
	if !alikePatch(behind, p) {
		t.Fatalf("%s, past %s and back, is %s", show(p), show(row), show(behind))
	}
	return true
}

func TestSameByHand(t *testing.T) {
	some := []api.Entry{dir("a"), text("a-", "1", "2", "3", "4", "5"), dir("a/b"), text("a/b/c", "x y", "x"), data("a/d", "x"), text("e"), dir("f"), data("g", "")}
	for _, c := range []struct{ p, q api.Prim }{
		{linesOf("a-", 0, []string{"1"}, []string{"v", "w"}), linesOf("a-", 3, []string{"3"}, nil)},
		{linesOf("a-", 0, []string{"1"}, nil), linesOf("a-", 4, nil, []string{"6"})},
		{linesOf("a-", 4, []string{"5"}, []string{"v", "w"}), linesOf("a-", 0, []string{"1", "2", "3"}, nil)},
		{linesOf("a-", 5, nil, []string{"6"}), linesOf("a-", 4, nil, []string{"v"})},
		{linesOf("a-", 1, []string{"2"}, []string{"x"}), linesOf("a/b/c", 1, []string{"x"}, nil)},
		{token("a-", "3", "x"), token("a/b/c", "x", "3")},
		{bytesOf("a/d", "x", "y"), bytesOf("g", "", "x")},
		{plain(api.AddText, "a/b/d"), token("a/b/c", "x", "z")}, {bytesOf("a/d", "x", ""), plain(api.RmText, "e")},
		{plain(api.AddDir, "h"), plain(api.AddData, "a/h")}, {plain(api.RmDir, "f"), plain(api.RmData, "g")}, {plain(api.RmText, "e"), plain(api.AddText, "f/e")},
		{moved("a", "h"), token("h/b/c", "x", "z")}, {moved("a/b/c", "c"), linesOf("c", 1, []string{"x"}, nil)}, {moved("a/b", "f/b"), bytesOf("a/d", "x", "y")},
		{token("a/b/c", "x", "z"), moved("a/b", "f/b")}, {bytesOf("a/d", "x", "y"), moved("a", "f/a")}, {bytesOf("g", "", "y"), moved("g", "a/b/g")}, {bytesOf("g", "", "y"), moved("e", "f/e")},
		{moved("a/b", "f/b"), plain(api.AddText, "a/e")}, {plain(api.RmText, "e"), moved("a/d", "d")}, {moved("a/d", "f/d"), plain(api.AddDir, "f/e")},
		{moved("a/b", "b"), moved("a/d", "d")}, {moved("a/b", "f/b"), moved("e", "a/e")},
	} {
		made, e, place := prim.All(some, []api.Prim{c.p, c.q})
		if e != api.OK {
			t.Fatalf("%s and %s: %d at %d", show(c.p), show(c.q), e, place)
		}
		if !same(t, some, c.p, c.q, made) || !passed(t, some, c.p, []api.Prim{c.q}, made) {
			t.Errorf("%s and %s cannot be commuted", show(c.p), show(c.q))
		}
	}
}

// full is a tree of as many things as there may be, with an empty one of each kind.
func full() []api.Entry {
	l := []api.Entry{dir("d")}
	for i := range api.MaxEntries - 4 {
		l = append(l, text(fmt.Sprintf("d/%04d", i), "x"))
	}
	return append(l, dir("e"), text("t"), data("u", ""))
}

// TestFullTree has trees at the edge of MaxEntries.
func TestFullTree(t *testing.T) {
	for _, c := range []struct {
		l    []api.Entry
		p, q api.Prim
	}{
		{full(), plain(api.RmDir, "e"), plain(api.RmText, "t")},
		{full(), plain(api.RmText, "t"), moved("d", "e/d")},
		{full(), moved("d", "f"), token("f/0007", "x", "y")},
		{full(), bytesOf("u", "", "x"), moved("u", "e/u")},
		{full()[:api.MaxEntries-1], plain(api.AddData, "v"), plain(api.RmText, "t")},
		{full()[:api.MaxEntries-1], plain(api.RmText, "t"), plain(api.AddData, "v")},
		{full()[:api.MaxEntries-2], plain(api.AddData, "v"), plain(api.AddText, "e/t")},
	} {
		made, e, place := prim.All(c.l, []api.Prim{c.p, c.q})
		if e != api.OK || !same(t, c.l, c.p, c.q, made) {
			t.Errorf("%s and %s: %d at %d", show(c.p), show(c.q), e, place)
		}
	}
}

// TestNoRoom has what takes room, behind what makes it: J1 commutes them, for it asks no tree, although a full one has no room the other way about.
func TestNoRoom(t *testing.T) {
	p, q := plain(api.RmText, "t"), plain(api.AddText, "v")
	stay(t, p, q)
	if _, e, _ := prim.All(full(), []api.Prim{p, q}); e != api.OK {
		t.Errorf("on a full tree they are %d", e)
	}
	if _, e, place := prim.All(full(), []api.Prim{q, p}); e != api.ErrTooMany || place != 0 {
		t.Errorf("the other way about they are %d at %d", e, place)
	}
}

// shortTrees are all trees of some few things.
func shortTrees() [][]api.Entry {
	of := [][]api.Entry{
		{dir("a"), text("a"), text("a", "x", "y", "x"), data("a", ""), data("a", "x")},
		{text("a-", "x y")},
		{dir("a/b"), text("a/b", "y", "x"), data("a/b", "y")},
		{text("a/b/c", "x")},
		{dir("b"), text("b"), text("b", "y"), data("b", ""), data("b", "x")},
		{text("b/a"), dir("b/a")},
	}
	all := [][]api.Entry{nil}
	for _, choice := range of {
		for _, l := range all {
			for _, x := range choice {
				if m := append(l[:len(l):len(l)], x); tree.Right(m) {
					all = append(all, m)
				}
			}
		}
	}
	return all
}

// shortPatches are patches of all kinds, of the paths of shortTrees and others.
func shortPatches() []api.Prim {
	paths := []string{"a", "a-", "a/b", "a/b/c", "b", "b/a", "c", "b/c"}
	var l []api.Prim
	for _, p := range paths {
		l = append(l, additionsOf(p)...)
		for at := range 4 {
			for _, old := range [][]string{nil, {"x"}, {"y"}, {"y", "x"}} {
				l = append(l, linesOf(p, at, old, nil), linesOf(p, at, old, []string{"z"}), linesOf(p, at, old, []string{"x", "y"}))
			}
		}
		for _, from := range []string{"", "x", "y", "z"} {
			for _, to := range []string{"", "x", "y", "z"} {
				l = append(l, token(p, from, to), bytesOf(p, from, to))
			}
		}
		for _, to := range paths {
			l = append(l, moved(p, to))
		}
	}
	return slices.DeleteFunc(l, func(p api.Prim) bool { return !prim.Right(p) })
}

// TestShortTrees has all pairs of short patches that can be done on short trees.
func TestShortTrees(t *testing.T) {
	patches := shortPatches()
	count := map[[2]int]int{}
	oneText := 0
	for _, l := range shortTrees() {
		for _, p := range patches {
			made, e := prim.Apply(l, p)
			if e != api.OK {
				continue
			}
			for _, q := range patches {
				last, e := prim.Apply(made, q)
				if e == api.OK && same(t, l, p, q, last) {
					count[[2]int{p.Kind, q.Kind}]++
					if p.Kind == api.Lines && q.Kind == api.Lines && p.Path == q.Path {
						oneText++
					}
				}
			}
		}
	}
	if len(count) != api.Move*api.Move || oneText < 100 {
		t.Errorf("only %d kinds were commuted with kinds, %d Lines of one text", len(count), oneText)
	}
}

func pick[T any](r *rand.Rand, l ...T) T { return l[r.Intn(len(l))] }

// anyPatch is one that may well be done on l.
func anyPatch(r *rand.Rand, l []api.Entry) api.Prim {
	x := api.Entry{Path: "a", Kind: api.KindDir}
	if len(l) > 0 {
		x = pick(r, l...)
	}
	in := pick(r, "a", "b", "a.", "c")
	if len(l) > 0 && r.Intn(3) > 0 {
		in = pick(r, l...).Path + "/" + in
	}
	words := []string{"x", "y", "z", "x+y", ""}
	switch n := r.Intn(12); {
	case n < 2:
		return plain(pick(r, api.AddDir, api.AddText, api.AddData), in)
	case n == 3 || n > 4 && x.Kind == api.KindDir:
		return moved(x.Path, in)
	case n == 4:
		return plain(2*x.Kind, x.Path)
	case x.Kind == api.KindData:
		return bytesOf(x.Path, x.Data, pick(r, words...))
	case n < 11:
		return anyLines(r, x, words)
	}
	return token(x.Path, pick(r, words...), pick(r, words...))
}

// anyLines is a Lines that fits a text, of a few lines, so that others have room beside it.
func anyLines(r *rand.Rand, x api.Entry, words []string) api.Prim {
	at := r.Intn(len(x.Lines) + 1)
	to := at + r.Intn(min(2, len(x.Lines)-at)+1)
	var now []string
	for range r.Intn(4) {
		now = append(now, pick(r, words...))
	}
	return linesOf(x.Path, at, slices.Clone(x.Lines[at:to]), now)
}

// start is a tree with texts that are long enough for several Lines.
func start(r *rand.Rand) []api.Entry {
	lines := func() []string {
		var l []string
		for range 5 + r.Intn(15) {
			l = append(l, pick(r, "x", "y", "x y", ""))
		}
		return l
	}
	return []api.Entry{dir("a"), text("a/b", lines()...), dir("b"), dir("b/a"), text("b/a/a", lines()...), text("c", lines()...), data("d", "x")}
}

// TestLongRows has rows of patches in which each passes as many as it can.
func TestLongRows(t *testing.T) {
	r := rand.New(rand.NewSource(10))
	pairs, lengths := map[[2]int]int{}, map[int]int{}
	for range 300 {
		trees := [][]api.Entry{start(r)}
		var row []api.Prim
		for range 40 {
			p := anyPatch(r, trees[len(row)])
			if made, e := prim.Apply(trees[len(row)], p); e == api.OK {
				row, trees = append(row, p), append(trees, made)
			}
		}
		for i, p := range row {
			n := 0
			for i+n+1 < len(row) && passed(t, trees[i], p, row[i+1:i+n+2], trees[i+n+2]) {
				n++
			}
			if n > 0 && same(t, trees[i], p, row[i+1], trees[i+2]) {
				pairs[[2]int{p.Kind, row[i+1].Kind}]++
			}
			lengths[min(n, 10)]++
		}
	}
	if len(pairs) < 70 || lengths[10] < 100 {
		t.Errorf("only %d kinds with kinds, and %d long rows, were commuted", len(pairs), lengths[10])
	}
	for n := range 10 {
		if lengths[n] < 50 {
			t.Errorf("only %d passed just %d", lengths[n], n)
		}
	}
}
