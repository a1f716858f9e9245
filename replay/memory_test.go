package replay_test

import (
	"slices"
	"testing"

	"counterpane/api"
	"counterpane/replay"
)

func withRoom(l ...string) []string { return append(l, "spare", "spare", "spare")[:len(l)] }

// roomyRow is changes with spare room behind all lists, in which something stands; some of these are one list. Each can pass the others.
func roomyRow(p string) []api.Prim {
	lines, other := withRoom("x", "y"), withRoom("z")
	change := func(at int, old, now []string) api.Prim {
		return api.Prim{Kind: api.Lines, Path: p, At: at, Old: old, New: now}
	}
	l := append(make([]api.Prim, 0, 8), change(9, lines, lines), change(6, withRoom(), lines), change(3, other, other), change(0, lines, other), api.Prim{Kind: api.AddDir, Path: p + ".", Old: withRoom(), New: withRoom()})
	return append(l, plain(api.AddDir, "spare"))[:len(l)]
}

// roomyRows has one row twice.
func roomyRows() [][]api.Prim {
	one := roomyRow("t")
	l := append(make([][]api.Prim, 0, 9), one, roomyRow("u"), roomyRow("v"), one[:4], nil, roomyRow("w"))
	return append(l, row(plain(api.AddDir, "spare")))[:len(l)]
}

// roomySet is patches of which one is left, with such room.
func roomySet() []api.Patch {
	lines, deps := withRoom("x", "y", "x", "y", "x", "y", "x", "y"), withRoom("a")
	add := func(p string) []api.Prim {
		return append([]api.Prim{plain(api.AddText, p), {Kind: api.Lines, Path: p, Old: withRoom(), New: lines}}, plain(api.AddDir, "spare"))[:2]
	}
	change := func(at int, now ...string) []api.Prim {
		return append([]api.Prim{{Kind: api.Lines, Path: "t", At: at, Old: lines[at : at+1], New: withRoom(now...)}}, plain(api.AddDir, "spare"))[:1]
	}
	l := []api.Patch{{Name: "e", Deps: deps, Body: change(1, "v")}, {Name: "d", Deps: deps, Body: change(6, "w")}, {Name: "c", Deps: deps, Body: change(0)}, {Name: "b", Body: add("u")}, {Name: "a", Body: add("t")}}
	l = append(l, api.Patch{Name: "f", Deps: withRoom("d"), Body: change(4, lines[:3]...)}, api.Patch{Name: "g", Body: row(moved("x", "y"))})
	return append(l, patch("spare"))[:len(l)]
}

// wholeRow is changes with all that stands in spare room.
func wholeRow(l []api.Prim) []api.Prim {
	l = slices.Clone(l[:cap(l)])
	for i, p := range l {
		l[i].Old, l[i].New = slices.Clone(p.Old[:cap(p.Old)]), slices.Clone(p.New[:cap(p.New)])
	}
	return l
}

func wholeRows(l [][]api.Prim) [][]api.Prim {
	l = slices.Clone(l[:cap(l)])
	for i := range l {
		l[i] = wholeRow(l[i])
	}
	return l
}

func wholeSet(l []api.Patch) []api.Patch {
	l = slices.Clone(l[:cap(l)])
	for i, p := range l {
		l[i].Deps, l[i].Body = slices.Clone(p.Deps[:cap(p.Deps)]), wholeRow(p.Body)
	}
	return l
}

func alikePatch(p, q api.Patch) bool {
	return p.Name == q.Name && slices.Equal(p.Deps, q.Deps) && alikeRow(p.Body, q.Body)
}

// spoil changes all of a list, and of its spare room.
func spoil[T any](l []T, to T) {
	l = l[:cap(l)]
	for i := range l {
		l[i] = to
	}
}

func spoilRow(l []api.Prim) {
	for _, p := range l[:cap(l)] {
		spoil(p.Old, "spoilt")
		spoil(p.New, "spoilt")
	}
	spoil(l, api.Prim{Path: "spoilt"})
}

func spoilRows(l [][]api.Prim) {
	for _, r := range l[:cap(l)] {
		spoilRow(r)
	}
	spoil(l, nil)
}

func spoilTree(l []api.Entry) {
	for _, x := range l[:cap(l)] {
		spoil(x.Lines, "spoilt")
	}
	spoil(l, api.Entry{Path: "spoilt"})
}

func spoilSet(l []api.Patch) {
	for _, p := range l[:cap(l)] {
		spoil(p.Deps, "spoilt")
		spoilRow(p.Body)
	}
	spoil(l, api.Patch{Name: "spoilt"})
}

func spoilState(s api.State) {
	spoilTree(s.Tree)
	spoil(s.Done, "spoilt")
	spoil(s.Left, "spoilt")
	spoilRows(s.Forms)
}

// state is what a set makes that is one.
func state(t *testing.T, l []api.Patch) api.State {
	t.Helper()
	s, e := replay.Replay(l)
	if e != api.OK || len(s.Tree) != 2 || len(s.Done) != 5 || len(s.Left) != 2 || len(s.Forms) != 5 {
		t.Fatalf("it is %s, %d", show(s), e)
	}
	return s
}

// eachFirst is which of n rows are first: all ways.
func eachFirst(n int) [][]bool {
	var all [][]bool
	for bits := range 1 << n {
		first := make([]bool, n, n+3)
		for i := range first {
			first[i] = bits>>i&1 == 1
		}
		spoil(first[n:], true)
		all = append(all, first)
	}
	return all
}

// rowsOf are all rows that calls of Merge and Split answer, those of one call beside one another.
func rowsOf(t *testing.T, l [][]api.Prim) [][][]api.Prim {
	t.Helper()
	var all [][][]api.Prim
	for _, a := range l {
		for _, b := range l {
			if m, is := replay.Merge(a, b); is {
				all = append(all, [][]api.Prim{m})
			}
		}
	}
	for _, first := range eachFirst(len(l)) {
		was := slices.Clone(first[:cap(first)])
		if x, y, is := replay.Split(l, first); is {
			all = append(all, [][]api.Prim{x, y})
		}
		if !slices.Equal(first[:cap(first)], was) {
			t.Fatalf("%v became %v", was, first[:cap(first)])
		}
	}
	if len(all) < 50 {
		t.Fatalf("only %d answers", len(all))
	}
	return all
}

// TestHandedIn: what is handed in stays as it was, its spare room too, whatever is done to what comes out.
func TestHandedIn(t *testing.T) {
	l, set := roomyRows(), roomySet()
	was, wasSet := wholeRows(roomyRows()), wholeSet(roomySet())
	for _, rows := range rowsOf(t, l) {
		spoilRows(rows)
	}
	spoilState(state(t, set))
	if !slices.EqualFunc(wholeRows(l), was, alikeRow) {
		t.Errorf("%s became %s", show(was), show(wholeRows(l)))
	}
	if !slices.EqualFunc(wholeSet(set), wasSet, alikePatch) {
		t.Errorf("%s became %s", show(wasSet), show(wholeSet(set)))
	}
}

// TestAnswersAreNew: what is done to what was handed in is not to be seen in an answer, and no two lists of it share memory.
func TestAnswersAreNew(t *testing.T) {
	l, set := roomyRows(), roomySet()
	got, want := rowsOf(t, l), rowsOf(t, roomyRows())
	s, wanted := state(t, set), state(t, roomySet())
	spoilRows(l)
	spoilSet(set)
	if !alikeState(s, wanted) {
		t.Errorf("%s became %s", show(wanted), show(s))
	}
	for i := range got {
		apart(t, got[i], want[i])
	}
}

// apart asks that rows are as they should be, and stay so when what stands ahead is spoilt.
func apart(t *testing.T, got, want [][]api.Prim) {
	t.Helper()
	for i := range got {
		for j, p := range got[i] {
			if !alikeChange(p, want[i][j]) {
				t.Fatalf("row %d, at %d: %s; want %s", i, j, show(p), show(want[i][j]))
			}
			spoil(p.Old, "spoilt")
			if !slices.Equal(p.New, want[i][j].New) {
				t.Fatalf("row %d, at %d: Old and New share memory", i, j)
			}
			spoil(p.New, "spoilt")
		}
		spoilRow(got[i])
	}
}

// TestListsOfOneState: no two lists of a State share memory.
func TestListsOfOneState(t *testing.T) {
	want := state(t, roomySet())
	for _, spoilSome := range []func(s api.State) api.State{
		func(s api.State) api.State { spoilTree(s.Tree); s.Tree = want.Tree; return s },
		func(s api.State) api.State { spoil(s.Done, "spoilt"); s.Done = want.Done; return s },
		func(s api.State) api.State { spoil(s.Left, "spoilt"); s.Left = want.Left; return s },
		func(s api.State) api.State { spoilRows(s.Forms); s.Forms = want.Forms; return s },
		func(s api.State) api.State { spoilRow(s.Forms[1]); s.Forms[1] = want.Forms[1]; return s },
		func(s api.State) api.State {
			spoil(s.Tree[0].Lines, "spoilt")
			s.Tree[0].Lines = want.Tree[0].Lines
			return s
		},
	} {
		if s := spoilSome(state(t, roomySet())); !alikeState(s, want) {
			t.Errorf("%s became %s", show(want), show(s))
		}
	}
	apart(t, state(t, roomySet()).Forms, want.Forms)
}

// TestOnceMore: the same of the same, in whatever order a map is gone through, and whatever was asked ahead of it.
func TestOnceMore(t *testing.T) {
	l, rows := roomySet(), roomyRows()
	wrong := append(slices.Clone(l), l[0])
	for range 30 {
		ask(t, l)
		ask(t, wrong)
		ask(t, l[1:])
		askMerge(t, rows[0], rows[1])
		askSplit(t, rows, true, false, true)
	}
}

// TestAllOrders asks P15.2 of a set in all orders in which its patches may stand.
func TestAllOrders(t *testing.T) {
	l := roomySet()
	want, n := state(t, l), 0
	var turn func(at int)
	turn = func(at int) {
		if at == len(l) {
			n++
			if s, e := replay.Replay(l); e != api.OK || !alikeState(s, want) {
				t.Fatalf("Replay(%s) is %s, %d; want %s", show(l), show(s), e, show(want))
			}
			return
		}
		for i := at; i < len(l); i++ {
			l[at], l[i] = l[i], l[at]
			turn(at + 1)
			l[at], l[i] = l[i], l[at]
		}
	}
	turn(0)
	if n != 5040 {
		t.Errorf("only %d orders", n)
	}
}
