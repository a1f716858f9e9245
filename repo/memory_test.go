package repo_test

import (
	"slices"
	"testing"

	"counterpane/api"
	"counterpane/repo"
)

func withRoom(l ...string) []string { return append(l, "spare", "spare", "spare")[:len(l)] }

// roomyTree is a tree with spare room behind its lists, in which something stands; two of its Lines are one list.
func roomyTree() []api.Entry {
	l, m := withRoom("x", "y"), withRoom("z")
	return append([]api.Entry{
		{Path: "d", Kind: api.KindDir}, {Path: "d/b", Kind: api.KindData, Data: "q"}, {Path: "d/t", Kind: api.KindText, Lines: l}, {Path: "t", Kind: api.KindText, Lines: l}, {Path: "u", Kind: api.KindText, Lines: m},
	}, dir("spare"), dir("spare"))[:5]
}

// roomySet is patches with spare room behind all their lists; some of these are one list.
func roomySet() []api.Patch {
	lines, deps := withRoom("v", "w"), withRoom("y.1", "y.2")
	texts := append([]api.Prim{
		{Kind: api.AddText, Path: "k"}, {Kind: api.Lines, Path: "k", New: lines}, {Kind: api.Lines, Path: "k", Old: lines, New: withRoom("1", "2", "3")}, {Kind: api.Lines, Path: "k", At: 3, New: lines},
	}, api.Prim{Path: "spare"}, api.Prim{Path: "spare"})[:4]
	l := []api.Patch{{Name: "y.4", Deps: deps, Body: texts[:0]}, {Name: "y.1", Deps: withRoom(), Body: texts}, {Name: "y.2", Deps: deps[:1]}, {Name: "y.3", Deps: deps, Body: texts[3:]}, {Name: "y.5", Body: texts[:2]}}
	return append(l, tag("spare spare"), tag("spare"))[:len(l)]
}

// spoil changes all of a list, and of its spare room.
func spoil[T any](l []T, to T) {
	l = l[:cap(l)]
	for i := range l {
		l[i] = to
	}
}

func spoilTree(l []api.Entry) {
	for _, x := range l[:cap(l)] {
		spoil(x.Lines, "spoilt")
	}
	spoil(l, dir("spoilt"))
}

func spoilBody(l []api.Prim) {
	for _, x := range l[:cap(l)] {
		spoil(x.Old, "spoilt")
		spoil(x.New, "spoilt")
	}
	spoil(l, api.Prim{Path: "spoilt"})
}

func spoilSet(l []api.Patch) {
	for _, p := range l[:cap(l)] {
		spoilBody(p.Body)
		spoil(p.Deps, "spoilt")
	}
	spoil(l, tag("spoilt"))
}

func spoilState(s api.State) {
	spoilTree(s.Tree)
	spoil(s.Done, "spoilt")
	spoil(s.Left, "spoilt")
	for _, form := range s.Forms[:cap(s.Forms)] {
		spoilBody(form)
	}
	spoil(s.Forms, nil)
}

// wholeTree is a tree with all that stands in spare room.
func wholeTree(l []api.Entry) []api.Entry {
	l = slices.Clone(l[:cap(l)])
	for i, x := range l {
		l[i].Lines = slices.Clone(x.Lines[:cap(x.Lines)])
	}
	return l
}

// wholeSet is patches likewise.
func wholeSet(l []api.Patch) []api.Patch {
	l = slices.Clone(l[:cap(l)])
	for i, p := range l {
		l[i].Deps, l[i].Body = slices.Clone(p.Deps[:cap(p.Deps)]), slices.Clone(p.Body[:cap(p.Body)])
		for j, x := range l[i].Body {
			l[i].Body[j].Old, l[i].Body[j].New = slices.Clone(x.Old[:cap(x.Old)]), slices.Clone(x.New[:cap(x.New)])
		}
	}
	return l
}

// worked does each command, with what is handed in, some that answer errors too.
func worked(t *testing.T, now []api.Entry, l []api.Patch, names []string) *repo.Repo {
	t.Helper()
	r, e := repo.Init(roomyDisk(), "x")
	answers := func(want api.Errno, what string, e api.Errno) {
		t.Helper()
		if e != want {
			t.Fatalf("%s is %d; want %d", what, e, want)
		}
	}
	answers(api.OK, "Init", e)
	answers(api.OK, "Apply", r.Apply(l))
	answers(api.OK, "Apply", r.Apply(l[1:3]))
	answers(api.ErrLoop, "Apply", func() api.Errno {
		o, _ := repo.Init(roomyDisk(), "o")
		return o.Apply(l[:1])
	}())
	_, e = r.Record(now)
	answers(api.OK, "Record", e)
	_, e = r.Record(now)
	answers(api.ErrNone, "Record", e)
	_, e = r.Tag()
	answers(api.OK, "Tag", e)
	_, e = r.Amend("x.2", now[:4])
	answers(api.OK, "Amend", e)
	_, e = r.Amend("x.1", now)
	answers(api.ErrSame, "Amend", e)
	answers(api.ErrNone, "Unrecord", r.Unrecord(names))
	answers(api.OK, "Unrecord", r.Unrecord(names[:2]))
	return r
}

func roomyNames() []string { return withRoom("y.4", "y.4", "z") }

// TestHandedIn: what is handed in stays as it was, its spare room too, whatever is done to what comes out.
func TestHandedIn(t *testing.T) {
	now, l, names := roomyTree(), roomySet(), roomyNames()
	r := worked(t, now, l, names)
	spoilSet(r.Patches())
	spoilState(r.State())
	if !sameTree(wholeTree(now), wholeTree(roomyTree())) {
		t.Errorf("the tree became %s", show(wholeTree(now)))
	}
	if !slices.EqualFunc(wholeSet(l), wholeSet(roomySet()), samePatch) {
		t.Errorf("the patches became %s", show(wholeSet(l)))
	}
	if want := roomyNames(); !slices.Equal(names[:cap(names)], want[:cap(want)]) {
		t.Errorf("the names became %q", names[:cap(names)])
	}
}

// TestNotKept: what is done to what was handed in, or came out, is not to be seen in the repository.
func TestNotKept(t *testing.T) {
	now, l, names := roomyTree(), roomySet(), roomyNames()
	r := worked(t, now, l, names)
	spoilTree(now)
	spoilSet(l)
	spoil(names, "spoilt")
	want := worked(t, roomyTree(), roomySet(), roomyNames())
	for range 3 {
		if !slices.EqualFunc(r.Patches(), want.Patches(), samePatch) || !sameState(r.State(), want.State()) {
			t.Fatalf("it became %s", shown(r))
		}
		spoilSet(r.Patches())
		spoilState(r.State())
	}
	name, e := r.Record(roomyTree()[:2])
	wanted, _ := want.Record(roomyTree()[:2])
	if name != wanted || e != api.OK || shown(r) != shown(want) {
		t.Errorf("Record is %q, %d, and it is %s; want %s", name, e, shown(r), shown(want))
	}
}

// TestListsOfOneAnswer: no two of them share memory, though those that were handed in did.
func TestListsOfOneAnswer(t *testing.T) {
	r := worked(t, roomyTree(), roomySet(), roomyNames())
	l, want := r.Patches(), r.Patches()
	for i, p := range l {
		spoil(p.Deps, "spoilt")
		for j, x := range p.Body {
			spoil(x.Old, "spoilt")
			if !slices.Equal(x.New, want[i].Body[j].New) {
				t.Fatalf("Old and New of a change of %s share memory", p.Name)
			}
			spoil(x.New, "spoilt")
			if !sameBody(p.Body[j+1:], want[i].Body[j+1:]) {
				t.Fatalf("a change of %s shares memory with one behind it", p.Name)
			}
		}
		spoilBody(p.Body)
		if !slices.EqualFunc(l[i+1:], want[i+1:], samePatch) {
			t.Fatalf("%s shares memory with one behind it", want[i].Name)
		}
	}
	s, as := r.State(), r.State()
	for i, x := range s.Tree {
		spoil(x.Lines, "spoilt")
		if !sameTree(s.Tree[i+1:], as.Tree[i+1:]) {
			t.Fatalf("Lines of %s share memory with some behind them", x.Path)
		}
	}
	spoilTree(s.Tree)
	if !slices.Equal(s.Done, as.Done) || !slices.Equal(s.Left, as.Left) || !slices.EqualFunc(s.Forms, as.Forms, sameBody) {
		t.Fatal("the Tree shares memory with what is behind it")
	}
	spoil(s.Done, "spoilt")
	if !slices.Equal(s.Left, as.Left) {
		t.Fatal("Done and Left share memory")
	}
	spoil(s.Left, "spoilt")
	for i, form := range s.Forms {
		for j, x := range form {
			spoil(x.Old, "spoilt")
			if !slices.Equal(x.New, as.Forms[i][j].New) {
				t.Fatalf("Old and New of a change of form %d share memory", i)
			}
			spoil(x.New, "spoilt")
			if !sameBody(form[j+1:], as.Forms[i][j+1:]) {
				t.Fatalf("a change of form %d shares memory with one behind it", i)
			}
		}
		spoilBody(form)
		if !slices.EqualFunc(s.Forms[i+1:], as.Forms[i+1:], sameBody) {
			t.Fatalf("form %d shares memory with one behind it", i)
		}
	}
}

// TestOnceMore: the same of the same, whatever was asked of other ones in between.
func TestOnceMore(t *testing.T) {
	want := shown(worked(t, roomyTree(), roomySet(), roomyNames()))
	for range 20 {
		begun(t, "x").record(t, lined("1"))
		if got := shown(worked(t, roomyTree(), roomySet(), roomyNames())); got != want {
			t.Fatalf("it is %s; want %s", got, want)
		}
	}
}

// TestTwoOnes: two repositories have nothing to do with one another, nor with what one of them applied of the other.
func TestTwoOnes(t *testing.T) {
	x, y := begun(t, "x"), begun(t, "y")
	x.record(t, lined("1"))
	y.apply(t, x.r.Patches()...)
	was := shown(x.r)
	y.record(t, lined("1 2"))
	y.unrecord(t, "x.1")
	x.alike(t, "x")
	if shown(x.r) != was {
		t.Errorf("%s became %s", was, shown(x.r))
	}
	x.record(t, lined("1 3"))
	y.has(t, 1, "", "", "", nil)
}
