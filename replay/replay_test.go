package replay_test

import (
	"fmt"
	"slices"
	"strings"
	"testing"

	"counterpane/api"
	"counterpane/replay"
)

// plain is a change of a kind that names nothing but a path.
func plain(kind int, p string) api.Prim { return api.Prim{Kind: kind, Path: p} }

// hunk is a Lines, of lines that are words.
func hunk(p string, at int, old, now string) api.Prim {
	return api.Prim{Kind: api.Lines, Path: p, At: at, Old: strings.Fields(old), New: strings.Fields(now)}
}

func token(p, from, to string) api.Prim {
	return api.Prim{Kind: api.Token, Path: p, From: from, To: to}
}

func bytesOf(p, from, to string) api.Prim {
	return api.Prim{Kind: api.Bytes, Path: p, From: from, To: to}
}

func moved(p, to string) api.Prim { return api.Prim{Kind: api.Move, Path: p, To: to} }

func row(l ...api.Prim) []api.Prim { return l }

// patch is one of a name, and names that it stands on behind it.
func patch(names string, body ...api.Prim) api.Patch {
	l := strings.Fields(names)
	return api.Patch{Name: l[0], Deps: l[1:], Body: body}
}

func dir(p string) api.Entry { return api.Entry{Path: p, Kind: api.KindDir} }

func text(p, words string) api.Entry {
	return api.Entry{Path: p, Kind: api.KindText, Lines: strings.Fields(words)}
}

func data(p, b string) api.Entry { return api.Entry{Path: p, Kind: api.KindData, Data: b} }

// outcome asks what a set makes, in several orders; done and left are names.
func outcome(t *testing.T, l []api.Patch, done, left string, tree ...api.Entry) api.State {
	t.Helper()
	var s api.State
	for range max(len(l), 1) {
		var e api.Errno
		if s, e = replay.Replay(l); e != api.OK {
			t.Fatalf("Replay(%s) is %d", show(l), e)
		}
		if !slices.Equal(s.Done, strings.Fields(done)) || !slices.Equal(s.Left, strings.Fields(left)) || !alikeTree(s.Tree, tree) {
			t.Fatalf("Replay(%s) has %s done, %s left, and makes %s; want %s, %s, %s", show(l), show(s.Done), show(s.Left), show(s.Tree), done, left, show(tree))
		}
		ask(t, l)
		if len(l) > 0 {
			l = append(l[1:len(l):len(l)], l[0])
		}
	}
	return s
}

// forms asks for the Forms of a State.
func forms(t *testing.T, s api.State, want ...[]api.Prim) {
	t.Helper()
	if !slices.EqualFunc(s.Forms, want, alikeRow) {
		t.Errorf("its forms are %s; want %s", show(s.Forms), show(want))
	}
}

func TestExample(t *testing.T) {
	x := plain(api.AddDir, "x")
	s := outcome(t, []api.Patch{patch("a", x), patch("b", x)}, "a", "b", dir("x"))
	forms(t, s, row(x))
}

func TestNone(t *testing.T) {
	for _, l := range [][]api.Patch{nil, {}} {
		s := outcome(t, l, "", "")
		forms(t, s)
	}
	forms(t, outcome(t, []api.Patch{patch("a"), patch("b a")}, "a b", ""), nil, nil)
}

// start is a patch, m, on which others stand.
func start() api.Patch {
	return patch("m",
		plain(api.AddText, "t"), hunk("t", 0, "", "1 2 3 4 5 6 7 8 9"), plain(api.AddDir, "d"), plain(api.AddText, "d/u"), hunk("d/u", 0, "", "x y x"),
		plain(api.AddData, "b"), bytesOf("b", "", "x"), plain(api.AddDir, "e"))
}

// startTree is what start makes, with other things in place of some.
func startTree(others ...api.Entry) []api.Entry {
	l := []api.Entry{data("b", "x"), dir("d"), text("d/u", "x y x"), dir("e"), text("t", "1 2 3 4 5 6 7 8 9")}
	for _, x := range others {
		i := slices.IndexFunc(l, func(y api.Entry) bool { return y.Path >= x.Path })
		switch {
		case i < 0:
			l = append(l, x)
		case l[i].Path == x.Path:
			l[i] = x
		default:
			l = slices.Insert(l, i, x)
		}
	}
	return l
}

func TestBeside(t *testing.T) {
	outcome(t, []api.Patch{start()}, "m", "", startTree()...)
	m, r := start(), start().Body
	s := outcome(t, []api.Patch{m, patch("a m", hunk("t", 0, "1", "v w")), patch("b m", hunk("t", 4, "5", "")), patch("c m", hunk("t", 8, "9", "z"))},
		"m a b c", "", startTree(text("t", "v w 2 3 4 6 7 8 z"))...)
	forms(t, s, r, row(hunk("t", 0, "1", "v w")), row(hunk("t", 5, "5", "")), row(hunk("t", 8, "9", "z")))
	// A change of what another one moved, and a Move of what another one changed.
	s = outcome(t, []api.Patch{m, patch("a m", moved("d", "e/f")), patch("b m", token("d/u", "x", "z"), hunk("d/u", 3, "", "w"))},
		"m a b", "", data("b", "x"), dir("e"), dir("e/f"), text("e/f/u", "z y z w"), text("t", "1 2 3 4 5 6 7 8 9"))
	forms(t, s, r, row(moved("d", "e/f")), row(token("e/f/u", "x", "z"), hunk("e/f/u", 3, "", "w")))
	s = outcome(t, []api.Patch{m, patch("b m", moved("d", "e/f")), patch("a m", token("d/u", "x", "z"), hunk("d/u", 3, "", "w"))},
		"m a b", "", data("b", "x"), dir("e"), dir("e/f"), text("e/f/u", "z y z w"), text("t", "1 2 3 4 5 6 7 8 9"))
	forms(t, s, r, row(token("d/u", "x", "z"), hunk("d/u", 3, "", "w")), row(moved("d", "e/f")))
}

// TestThroughOthers has patches that stand on some of those that are done, of which all are as they are behind others.
func TestThroughOthers(t *testing.T) {
	a := patch("a m", hunk("t", 0, "1", "v w"))
	b, c := patch("b m", hunk("t", 4, "5", "")), patch("c b", hunk("t", 6, "8", "y z"))
	d := patch("d a c", hunk("t", 2, "2", "2 2"))
	s := outcome(t, []api.Patch{start(), a, b, c}, "m a b c", "", startTree(text("t", "v w 2 3 4 6 7 y z 9"))...)
	forms(t, s, start().Body, a.Body, row(hunk("t", 5, "5", "")), row(hunk("t", 7, "8", "y z")))
	s = outcome(t, []api.Patch{d, start(), a, b, c}, "m a b c d", "", startTree(text("t", "v w 2 2 3 4 6 7 y z 9"))...)
	forms(t, s, start().Body, a.Body, row(hunk("t", 5, "5", "")), row(hunk("t", 7, "8", "y z")), d.Body)
	// What stands on others is told first, if its name is the least: "0" is ahead of "b", and behind "a".
	outcome(t, []api.Patch{patch("0 a", hunk("t", 3, "3", "")), a, b, start()}, "m a 0 b", "", startTree(text("t", "v w 2 4 6 7 8 9"))...)
}

// TestLeft has a patch left for each reason.
func TestLeft(t *testing.T) {
	m := start()
	v := text("t", "v 2 3 4 5 6 7 8 9")
	change := hunk("t", 0, "1", "v")
	// Merge cannot be: no line that stays is between them.
	outcome(t, []api.Patch{m, patch("a m", change), patch("b m", hunk("t", 1, "2", "w"))}, "m a", "b", startTree(v)...)
	outcome(t, []api.Patch{m, patch("b m", change), patch("a m", hunk("t", 1, "2", "w"))}, "m a", "b", startTree(text("t", "1 w 3 4 5 6 7 8 9"))...)
	// What stands on one that is left, and on that; though they could be done.
	outcome(t, []api.Patch{m, patch("a m", change), patch("b m", change), patch("c b", hunk("t", 4, "5", "")), patch("d c"), patch("e a", hunk("t", 8, "9", ""))},
		"m a e", "b c d", startTree(text("t", "v 2 3 4 5 6 7 8"))...)
	outcome(t, []api.Patch{m, patch("a m", change), patch("b m", change), patch("c a b m")}, "m a", "b c", startTree(v)...)
	// What it changes was made by one that it does not stand on.
	outcome(t, []api.Patch{m, patch("a m", change), patch("b", plain(api.AddDir, "z")), patch("c b", hunk("t", 0, "v", "w")), patch("d c")}, "b m a", "c d", startTree(v, dir("z"))...)
	// Nothing is made of one that is left, not even of the first of its changes.
	outcome(t, []api.Patch{m, patch("a m", plain(api.AddDir, "z"), plain(api.RmDir, "d")), patch("b m", plain(api.AddDir, "z"))}, "m b", "a", startTree(dir("z"))...)
	outcome(t, []api.Patch{patch("a", hunk("t", 0, "", "x")), patch("b", plain(api.AddText, "t"))}, "b", "a", text("t", ""))
}

func TestWrongSets(t *testing.T) {
	ok := patch("a", plain(api.AddDir, "x"))
	many := make([]api.Patch, api.MaxPatches+1)
	for i := range many {
		many[i] = patch(numbered(i))
	}
	long := api.Patch{Name: "b", Body: make([]api.Prim, api.MaxBody+1)}
	for i := range long.Body {
		long.Body[i] = plain(api.AddDir, "x")
	}
	for _, c := range []struct {
		l []api.Patch
		e api.Errno
	}{
		{[]api.Patch{{}}, api.ErrArg},
		{[]api.Patch{ok, ok}, api.ErrArg},
		{[]api.Patch{ok, patch("b a", plain(0, "y"))}, api.ErrArg},
		{[]api.Patch{ok, patch("b a", hunk("t", -1, "", "x"))}, api.ErrArg},
		{[]api.Patch{ok, patch("b c a"), patch("c")}, api.ErrArg},
		{[]api.Patch{ok, patch("b b")}, api.ErrArg},
		{[]api.Patch{ok, patch("b!")}, api.ErrArg},
		{[]api.Patch{ok, long}, api.ErrArg},
		{many, api.ErrArg},
		{[]api.Patch{ok, patch("b c")}, api.ErrLoop},
		{[]api.Patch{ok, patch("b c"), patch("c b")}, api.ErrLoop},
		{[]api.Patch{patch("b c"), patch("c d"), patch("d b"), ok}, api.ErrLoop},
		// Where both apply it is what closure.Order names first.
		{[]api.Patch{ok, patch("b c"), patch("d", plain(0, "y"))}, api.ErrArg},
	} {
		s, e := replay.Replay(c.l)
		if e != c.e || !alikeState(s, api.State{}) {
			t.Errorf("Replay(%s) is %s, %d; want %d alone", show(c.l), show(s), e, c.e)
		}
		ask(t, c.l)
	}
}

// merges asks what l is behind others.
func merges(t *testing.T, others, l, want []api.Prim) {
	t.Helper()
	got, is := askMerge(t, others, l)
	if !is || !alikeRow(got, want) {
		t.Errorf("Merge(%s, %s) is %s, %t; want %s", show(others), show(l), show(got), is, show(want))
	}
}

func TestMerge(t *testing.T) {
	wrong := plain(0, "")
	one, other := hunk("t", 0, "1", "v w"), hunk("t", 4, "5", "")
	merges(t, nil, nil, nil)
	merges(t, row(one), nil, nil)
	merges(t, nil, row(one, other), row(one, other))
	merges(t, row(one), row(other), row(hunk("t", 5, "5", "")))
	merges(t, row(other), row(one), row(one))
	merges(t, row(one, hunk("t", 4, "4", "")), row(hunk("t", 6, "7", "8")), row(hunk("t", 6, "7", "8")))
	merges(t, row(moved("t", "d/t"), hunk("d/t", 0, "1", "")), row(hunk("t", 4, "5", "6"), token("u", "x", "y")), row(hunk("d/t", 3, "5", "6"), token("u", "x", "y")))
	merges(t, row(moved("t", "u"), moved("u", "v"), plain(api.AddText, "t")), row(token("t", "x", "y")), row(token("v", "x", "y")))
	// Where there is nothing to pass, nothing is asked of a change.
	merges(t, nil, row(wrong), row(wrong))
	merges(t, row(wrong), nil, nil)
	for _, c := range [][2][]api.Prim{
		{row(one), row(one)}, {row(one), row(hunk("t", 1, "2", ""))}, {row(other), row(other, one)}, {row(token("t", "x", "y")), row(one)},
		{row(plain(api.AddDir, "x")), row(plain(api.AddDir, "x"))}, {row(plain(api.RmDir, "x")), row(plain(api.AddDir, "x/y"))}, {row(moved("x", "y")), row(moved("x", "z"))},
		{row(moved("t", "d/d/d/d/d/d/d/t")), row(token("t/t", "x", "y"))},
		{row(wrong), row(one)}, {row(one), row(wrong)}, {row(plain(11, "x")), row(one)},
	} {
		if got, is := askMerge(t, c[0], c[1]); is || len(got) != 0 {
			t.Errorf("Merge(%s, %s) is %s, %t", show(c[0]), show(c[1]), show(got), is)
		}
	}
}

func TestSplit(t *testing.T) {
	a, b, c := row(hunk("t", 0, "1", "v w")), row(hunk("t", 6, "6", "")), row(hunk("t", 9, "", "x"), moved("t", "u"))
	all := [][]api.Prim{a, b, c}
	splits := func(l [][]api.Prim, first []bool, ahead, behind []api.Prim) {
		t.Helper()
		x, y, is := replay.Split(l, first)
		if !is || !alikeRow(x, ahead) || !alikeRow(y, behind) {
			t.Errorf("Split(%s, %v) is %s, %s, %t; want %s, %s", show(l), first, show(x), show(y), is, show(ahead), show(behind))
		}
		askSplit(t, l, first...)
	}
	row := func(rows ...[]api.Prim) []api.Prim { return slices.Concat(rows...) }
	splits(nil, nil, nil, nil)
	splits(nil, []bool{true}, nil, nil)
	splits([][]api.Prim{nil, nil}, []bool{true}, nil, nil)
	for _, none := range [][]bool{nil, {}, {false}, {false, false, false}, {false, false, false, true}} {
		splits(all, none, nil, row(a, b, c))
	}
	for _, whole := range [][]bool{{true, true, true}, {true, true, true, false}, {true, true, true, true}} {
		splits(all, whole, row(a, b, c), nil)
	}
	splits(all, []bool{true}, a, row(b, c))
	splits(all, []bool{true, true}, row(a, b), c)
	splits(all, []bool{false, true}, []api.Prim{hunk("t", 5, "6", "")}, row(a, c))
	splits(all, []bool{true, false, true}, row(a, []api.Prim{hunk("t", 10, "", "x"), moved("t", "u")}), []api.Prim{hunk("u", 6, "6", "")})
	splits(all, []bool{false, false, true}, []api.Prim{hunk("t", 9, "", "x"), moved("t", "u")}, []api.Prim{hunk("u", 0, "1", "v w"), hunk("u", 6, "6", "")})
	splits(all, []bool{false, true, true}, []api.Prim{hunk("t", 5, "6", ""), hunk("t", 8, "", "x"), moved("t", "u")}, []api.Prim{hunk("u", 0, "1", "v w")})
	wrong := []api.Prim{plain(0, "")}
	splits([][]api.Prim{wrong, wrong}, nil, nil, row(wrong, wrong))
	splits([][]api.Prim{wrong, nil, wrong}, []bool{true, false, true}, row(wrong, wrong), nil)
	splits([][]api.Prim{wrong, b}, []bool{true}, wrong, b)
	for _, l := range [][][]api.Prim{
		{a, a}, {b, a, wrong}, {wrong, b}, {a, wrong}, {nil, b, {hunk("t", 6, "7", "")}}, {{token("t", "x", "y")}, {token("t", "y", "x")}}, {{plain(api.AddDir, "d")}, {plain(api.AddDir, "d/d")}},
	} {
		first := make([]bool, len(l))
		first[len(l)-1] = true
		x, y, is := replay.Split(l, first)
		if is || len(x) != 0 || len(y) != 0 {
			t.Errorf("Split(%s, %v) is %s, %s, %t", show(l), first, show(x), show(y), is)
		}
		askSplit(t, l, first...)
	}
}

// numbered is a name that rises with i.
func numbered(i int) string { return fmt.Sprintf("p.%03d", i) }

// chain is n patches, each of which stands on the one ahead of it, or on all.
func chain(n int, all bool, body func(i int) []api.Prim) []api.Patch {
	var l []api.Patch
	var names []string
	for i := range n {
		deps := slices.Clone(names)
		if !all && i > 0 {
			deps = names[i-1 : i : i]
		}
		l = append(l, api.Patch{Name: numbered(n - i), Deps: deps, Body: body(i)})
		if all {
			slices.Sort(l[i].Deps)
		}
		names = append(names, l[i].Name)
	}
	return l
}

// TestMost has as many patches as there may be: a row of them, and many beside one another.
func TestMost(t *testing.T) {
	line := func(i int) []api.Prim {
		if i == 0 {
			return row(plain(api.AddText, "t"))
		}
		return row(hunk("t", 0, "", numbered(i)))
	}
	for _, all := range []bool{false, true} {
		s, e := replay.Replay(chain(api.MaxPatches, all, line))
		if e != api.OK || len(s.Done) != api.MaxPatches || len(s.Left) != 0 || len(s.Tree) != 1 || len(s.Tree[0].Lines) != api.MaxPatches-1 || s.Tree[0].Lines[0] != numbered(api.MaxPatches-1) {
			t.Errorf("it is %s, %d", show(s), e)
		}
	}
	first := patch("m", plain(api.AddText, "t"), hunk("t", 0, "", ""))
	first.Body[1].New = make([]string, 3*api.MaxPatches)
	l := []api.Patch{first}
	for i := range api.MaxPatches - 1 {
		l = append(l, patch(numbered(i)+" m", api.Prim{Kind: api.Lines, Path: "t", At: 3 * i, Old: []string{""}, New: []string{"x", numbered(i)}}))
	}
	s, e := replay.Replay(l)
	if e != api.OK || len(s.Done) != api.MaxPatches || len(s.Tree[0].Lines) != 4*api.MaxPatches-1 {
		t.Fatalf("it is %s, %d", show(s), e)
	}
	for i := range api.MaxPatches - 1 {
		if got := s.Forms[i+1][0].At; got != 4*i || s.Tree[0].Lines[got+1] != numbered(i) {
			t.Fatalf("the form of %d is at %d", i, got)
		}
	}
}
