package closure_test

import (
	"slices"
	"testing"

	"counterpane/api"
	"counterpane/closure"
)

func withRoom(l ...string) []string { return append(l, "spare", "spare", "spare")[:len(l)] }

// roomy is a set with spare room behind all its lists, in which something stands; some of these are one list.
func roomy() []api.Patch {
	lines, deps := withRoom("x", "y"), withRoom("a", "b")
	change := func(old, now []string) api.Prim {
		return api.Prim{Kind: api.Lines, Path: "t", Old: old, New: now}
	}
	body := append([]api.Prim{change(lines, lines), change(withRoom(), lines), change(withRoom("x"), withRoom())}, change(lines, nil))[:3]
	l := []api.Patch{
		{Name: "d", Deps: deps, Body: body}, {Name: "c", Deps: deps, Body: body}, {Name: "b", Deps: withRoom("a"), Body: body[:2]}, {Name: "a", Deps: withRoom(), Body: body[1:]},
		{Name: "e", Deps: deps[1:]}, {Name: "f", Body: body},
	}
	return append(l, patch("spare", "spare"), patch("spare"))[:len(l)]
}

// whole is patches with all that stands in spare room.
func whole(l []api.Patch) []api.Patch {
	l = slices.Clone(l[:cap(l)])
	for i, p := range l {
		l[i].Deps, l[i].Body = slices.Clone(p.Deps[:cap(p.Deps)]), slices.Clone(p.Body[:cap(p.Body)])
		for j, x := range l[i].Body {
			l[i].Body[j].Old, l[i].Body[j].New = slices.Clone(x.Old[:cap(x.Old)]), slices.Clone(x.New[:cap(x.New)])
		}
	}
	return l
}

// spoil changes all of a list, and of its spare room.
func spoil[T any](l []T, to T) {
	l = l[:cap(l)]
	for i := range l {
		l[i] = to
	}
}

// spoilBody changes all that can be reached from changes.
func spoilBody(l []api.Prim) {
	for _, x := range l[:cap(l)] {
		spoil(x.Old, "spoilt")
		spoil(x.New, "spoilt")
	}
	spoil(l, api.Prim{Path: "spoilt"})
}

// spoilSet changes all that can be reached from patches.
func spoilSet(l []api.Patch) {
	for _, p := range l[:cap(l)] {
		spoilBody(p.Body)
		spoil(p.Deps, "spoilt")
	}
	spoil(l, patch("spoilt"))
}

// answers are the lists of names that all calls answer.
func answers(t *testing.T, l []api.Patch, names []string) [][]string {
	t.Helper()
	var lists [][]string
	took := func(l []string, e api.Errno) {
		if e != api.OK {
			t.Fatalf("it is %d", e)
		}
		lists = append(lists, l)
	}
	took(closure.Order(l))
	took(closure.Heads(l))
	took(closure.Down(l, names))
	took(closure.Up(l, names))
	return lists
}

// TestHandedIn: what is handed in stays as it was, its spare room too, whatever is done to what comes out.
func TestHandedIn(t *testing.T) {
	l, names := roomy(), withRoom("d", "b", "b")
	was, wasNames := whole(roomy()), slices.Clone(names[:cap(names)])
	sorted, e := closure.Sorted(l)
	if e != api.OK || len(sorted) != len(l) {
		t.Fatalf("Sorted is %s, %d", show(sorted), e)
	}
	spoilSet(sorted)
	for _, list := range answers(t, l, names) {
		spoil(list, "spoilt")
	}
	if !slices.EqualFunc(whole(l), was, alike) {
		t.Errorf("%s became %s", show(was), show(whole(l)))
	}
	if !slices.Equal(names[:cap(names)], wasNames) {
		t.Errorf("%q became %q", wasNames, names[:cap(names)])
	}
}

// TestAnswersAreNew: what is done to what was handed in is not to be seen in an answer.
func TestAnswersAreNew(t *testing.T) {
	l, names := roomy(), withRoom("d", "b", "b")
	sorted, _ := closure.Sorted(l)
	lists := answers(t, l, names)
	spoilSet(l)
	spoil(names, "spoilt")
	if want := byName(roomy()); !slices.EqualFunc(sorted, want, alike) {
		t.Errorf("%s became %s", show(want), show(sorted))
	}
	for i, want := range answers(t, roomy(), words("d", "b")) {
		if !slices.Equal(lists[i], want) {
			t.Errorf("%q became %q", want, lists[i])
		}
	}
}

func byName(l []api.Patch) []api.Patch {
	slices.SortFunc(l, func(p, q api.Patch) int {
		if p.Name < q.Name {
			return -1
		}
		return 1
	})
	return l
}

// TestListsOfOneAnswer: no two of them share memory, though those that were handed in did.
func TestListsOfOneAnswer(t *testing.T) {
	sorted, _ := closure.Sorted(roomy())
	want := byName(roomy())
	for i, p := range sorted {
		spoil(p.Deps, "spoilt")
		for j, x := range p.Body {
			spoil(x.Old, "spoilt")
			if !slices.Equal(x.New, want[i].Body[j].New) {
				t.Fatalf("Old and New of a change of %s share memory", p.Name)
			}
			spoil(x.New, "spoilt")
			if !slices.EqualFunc(p.Body[j+1:], want[i].Body[j+1:], alikePrim) {
				t.Fatalf("a change of %s shares memory with one behind it", p.Name)
			}
		}
		spoilBody(p.Body)
		if !slices.EqualFunc(sorted[i+1:], want[i+1:], alike) {
			t.Fatalf("%s shares memory with one behind it", want[i].Name)
		}
	}
}

// TestOnceMore: the same of the same, in whatever order a map is gone through, and whatever was asked ahead of it.
func TestOnceMore(t *testing.T) {
	l := row(backward(numbered(60)), func(ahead []string) []string { return ahead[len(ahead)/2 : (len(ahead)+len(ahead)/2)/2] })
	for range 30 {
		for _, l := range [][]api.Patch{l, ground(), roomy(), wrongSets()[0], nil} {
			ask(t, l)
			askOf(t, l, "d.010", "d.013")
			askOf(t, l, "a", "c")
		}
	}
}
