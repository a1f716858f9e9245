package seq_test

import (
	"fmt"
	"slices"
	"testing"

	"counterpane/api"
	"counterpane/prim"
	"counterpane/seq"
	"counterpane/tree"
)

func dir(p string) api.Entry { return api.Entry{Path: p, Kind: api.KindDir} }

func text(p string, l ...string) api.Entry {
	return api.Entry{Path: p, Kind: api.KindText, Lines: l}
}

func data(p, b string) api.Entry { return api.Entry{Path: p, Kind: api.KindData, Data: b} }

// alike tells whether two trees are the same.
func alike(l, m []api.Entry) bool {
	return slices.EqualFunc(l, m, func(x, y api.Entry) bool {
		return x.Path == y.Path && x.Kind == y.Kind && x.Data == y.Data && slices.Equal(x.Lines, y.Lines)
	})
}

// makes asks that what came of a row makes the same tree as that row.
func makes(t *testing.T, l []api.Entry, was, is []api.Prim, made []api.Entry) {
	t.Helper()
	got, e, place := prim.All(l, is)
	if e != api.OK || !alike(got, made) {
		t.Fatalf("%s, on %s, is %s, and makes %s, %d at %d; want %s", show(was), show(l), show(is), show(got), e, place, show(made))
	}
}

// swapped asks P11.2 and P11.4 of two rows that made a tree of l, and tells whether they can be swapped.
func swapped(t *testing.T, l []api.Entry, a, b []api.Prim, made []api.Entry) bool {
	t.Helper()
	x, y, is := seq.Swap(a, b)
	if is {
		makes(t, l, slices.Concat(a, b), slices.Concat(x, y), made)
		swappedBack(t, a, b, x, y)
	}
	return is
}

// madeLast asks P11.2 of a row that made a tree of l, and tells whether the one at that place can be the last.
func madeLast(t *testing.T, l []api.Entry, r []api.Prim, at int, made []api.Entry) bool {
	t.Helper()
	got, is := seq.Last(r, at)
	if is {
		makes(t, l, r, got, made)
	}
	return is
}

// joined asks P11.3 of a row that made a tree of l, and tells how many patches are less.
func joined(t *testing.T, l []api.Entry, r []api.Prim, made []api.Entry) int {
	t.Helper()
	got := seq.Coalesce(r)
	makes(t, l, r, got, made)
	if again := seq.Coalesce(got); len(got) > len(r) || !alikeRow(again, got) {
		t.Fatalf("%s is %s, and once more %s", show(r), show(got), show(again))
	}
	return len(r) - len(got)
}

// made is the tree that a row makes of l.
func made(t *testing.T, l []api.Entry, r []api.Prim) []api.Entry {
	t.Helper()
	m, e, place := prim.All(l, r)
	if e != api.OK {
		t.Fatalf("%s on %s: %d at %d", show(r), show(l), e, place)
	}
	return m
}

func TestSameByHand(t *testing.T) {
	some := []api.Entry{dir("a"), text("a-", "1", "2", "3", "4", "5"), dir("a/b"), text("a/b/c", "x y", "x"), data("a/d", "x"), text("e"), dir("f"), data("g", "")}
	for _, c := range []struct{ a, b []api.Prim }{
		{row(linesOf("a-", 0, []string{"1"}, []string{"v", "w"}), linesOf("a-", 3, []string{"3"}, nil)), row(moved("a-", "f/t"), linesOf("f/t", 4, nil, []string{"6"}))},
		{row(moved("a/b", "f/b"), token("f/b/c", "x", "z")), row(bytesOf("g", "", "x"), plain(api.RmText, "e"))},
		{row(moved("a", "h"), moved("f", "i")), row(token("h/b/c", "x", "z"), bytesOf("h/d", "x", ""), plain(api.RmText, "e"))},
		{row(plain(api.AddDir, "h"), plain(api.AddText, "h/t"), linesOf("h/t", 0, nil, []string{"x"})), row(moved("e", "f/e"), linesOf("f/e", 0, nil, []string{"y"}))},
	} {
		both := slices.Concat(c.a, c.b)
		if !swapped(t, some, c.a, c.b, made(t, some, both)) {
			t.Errorf("%s and %s cannot be swapped", show(c.a), show(c.b))
		}
		if !madeLast(t, some, both, len(c.a)-1, made(t, some, both)) {
			t.Errorf("%s cannot have the one at %d last", show(both), len(c.a)-1)
		}
	}
}

// full is a tree of as many things as there may be, with an empty one of each kind.
func full() []api.Entry {
	l := []api.Entry{dir("d")}
	for i := range api.MaxEntries - 4 {
		l = append(l, text(fmt.Sprintf("d/%04d", i), "x"))
	}
	return append(l, dir("e"), text("t"), data("u", ""))
}

// TestFullTree has trees at the edge of MaxEntries.
func TestFullTree(t *testing.T) {
	rm, add := plain(api.RmText, "t"), plain(api.AddText, "t")
	for _, r := range [][]api.Prim{
		{rm, add}, {rm, add, rm}, {plain(api.RmDir, "e"), rm, add, plain(api.AddDir, "e")}, {bytesOf("u", "", "x"), bytesOf("u", "x", "y")}, {moved("d", "f"), moved("f", "e/d"), moved("e/d", "d")},
	} {
		if joined(t, full(), r, made(t, full(), r)) == 0 {
			t.Errorf("%s has none that are one", show(r))
		}
	}
	a, b := row(moved("d", "e/d"), rm), row(plain(api.RmData, "u"), token("e/d/0007", "x", "y"))
	if !swapped(t, full(), a, b, made(t, full(), slices.Concat(a, b))) {
		t.Errorf("%s and %s cannot be swapped", show(a), show(b))
	}
	a, b = row(rm), row(plain(api.AddText, "v"))
	if l := full()[:api.MaxEntries-1]; !swapped(t, l, a, b, made(t, l, slices.Concat(a, b))) {
		t.Errorf("%s and %s cannot be swapped", show(a), show(b))
	}
}

// TestNoRoom has what takes room, behind what makes it: K1 swaps them, for it asks no tree, although a full one has no room the other way about.
func TestNoRoom(t *testing.T) {
	rm, add := plain(api.RmText, "t"), plain(api.AddText, "v")
	become(t, row(rm), row(add), row(add), row(rm))
	last(t, row(rm, add), 0, row(add, rm))
	made(t, full(), row(rm, add))
	if _, e, place := prim.All(full(), row(add, rm)); e != api.ErrTooMany || place != 0 {
		t.Errorf("the other way about they are %d at %d", e, place)
	}
}

// shortTrees are all trees of some few things.
func shortTrees() [][]api.Entry {
	of := [][]api.Entry{
		{dir("a"), text("a"), text("a", "x", "y", "x"), data("a", ""), data("a", "x")},
		{text("a-", "x y")},
		{dir("a/b"), text("a/b", "y", "x"), data("a/b", "y")},
		{text("a/b/c", "x")},
		{dir("b"), text("b"), text("b", "y"), data("b", ""), data("b", "x")},
		{text("b/a"), dir("b/a")},
	}
	all := [][]api.Entry{nil}
	for _, choice := range of {
		for _, l := range all {
			for _, x := range choice {
				if m := append(l[:len(l):len(l)], x); tree.Right(m) {
					all = append(all, m)
				}
			}
		}
	}
	return all
}

// shortPatches are patches of all kinds, of the paths of shortTrees and others.
func shortPatches() []api.Prim {
	paths := []string{"a", "a-", "a/b", "a/b/c", "b", "b/a", "c", "b/c"}
	lists := [][]string{nil, {"x"}, {"y"}, {"y", "x"}, {"z"}}
	var l []api.Prim
	for _, p := range paths {
		for kind := api.AddDir; kind <= api.RmData; kind++ {
			l = append(l, plain(kind, p))
		}
		for at := range 4 {
			for i := range len(lists) * len(lists) {
				l = append(l, linesOf(p, at, lists[i/len(lists)], lists[i%len(lists)]))
			}
		}
		for _, from := range []string{"", "x", "y", "z"} {
			for _, to := range []string{"", "x", "y", "z"} {
				l = append(l, token(p, from, to), bytesOf(p, from, to))
			}
		}
		for _, to := range paths {
			l = append(l, moved(p, to))
		}
	}
	return slices.DeleteFunc(l, func(p api.Prim) bool { return !prim.Right(p) })
}

// TestShortTrees has all short patches on short trees, with all behind them that are one with them.
func TestShortTrees(t *testing.T) {
	patches := shortPatches()
	behind := make([][]api.Prim, len(patches))
	for i, p := range patches {
		for _, q := range patches {
			if len(seq.Coalesce(row(p, q))) < 2 {
				behind[i] = append(behind[i], q)
			}
		}
	}
	less := map[[2]int]int{}
	for _, l := range shortTrees() {
		for i, p := range patches {
			first, e := prim.Apply(l, p)
			if e != api.OK {
				continue
			}
			for _, q := range behind[i] {
				if second, e := prim.Apply(first, q); e == api.OK {
					less[[2]int{p.Kind, joined(t, l, row(p, q), second)}]++
				}
			}
		}
	}
	for kind := api.AddDir; kind <= api.Move; kind++ {
		one := kind == api.Lines || kind == api.Bytes || kind == api.Move
		if less[[2]int{kind, 2}] < 10 || one != (less[[2]int{kind, 1}] >= 10) {
			t.Errorf("of kind %d %d were nothing, and %d were one patch", kind, less[[2]int{kind, 2}], less[[2]int{kind, 1}])
		}
	}
}
