package inventory_test

import (
	"slices"
	"testing"

	"counterpane/api"
	"counterpane/inventory"
)

func withRoom(l ...string) []string { return append(l, "spare", "spare", "spare")[:len(l)] }

// roomy is a set with spare room behind all its lists, in which something stands; some of these are one list.
func roomy() []api.Patch {
	lines, deps := withRoom("x", "y"), withRoom("a", "b")
	change := func(old, now []string) api.Prim {
		return api.Prim{Kind: api.Lines, Path: "t", Old: old, New: now}
	}
	body := append([]api.Prim{change(lines, lines), change(withRoom(), lines), change(withRoom("x"), withRoom())}, change(lines, nil))[:3]
	l := []api.Patch{
		{Name: "d", Deps: deps, Body: body}, {Name: "c", Deps: deps, Body: body}, {Name: "b", Deps: withRoom("a"), Body: body[:2]}, {Name: "a", Deps: withRoom(), Body: body[1:]},
		{Name: "e", Deps: deps[:1], Body: body[:0]}, {Name: "f", Body: body}, {Name: "g", Deps: deps},
	}
	return append(l, patch("spare spare"), patch("spare"))[:len(l)]
}

// whole is patches with all that stands in spare room.
func whole(l []api.Patch) []api.Patch {
	l = slices.Clone(l[:cap(l)])
	for i, p := range l {
		l[i].Deps, l[i].Body = slices.Clone(p.Deps[:cap(p.Deps)]), slices.Clone(p.Body[:cap(p.Body)])
		for j, x := range l[i].Body {
			l[i].Body[j].Old, l[i].Body[j].New = slices.Clone(x.Old[:cap(x.Old)]), slices.Clone(x.New[:cap(x.New)])
		}
	}
	return l
}

// identical is alike, of patches that are not right too.
func identical(p, q api.Patch) bool {
	return p.Name == q.Name && slices.Equal(p.Deps, q.Deps) && slices.EqualFunc(p.Body, q.Body, identicalChange)
}

func identicalChange(x, y api.Prim) bool {
	return x.Kind == y.Kind && x.Path == y.Path && x.To == y.To && x.From == y.From && x.At == y.At && slices.Equal(x.Old, y.Old) && slices.Equal(x.New, y.New)
}

// spoil changes all of a list, and of its spare room.
func spoil[T any](l []T, to T) {
	l = l[:cap(l)]
	for i := range l {
		l[i] = to
	}
}

// spoilBody changes all that can be reached from changes.
func spoilBody(l []api.Prim) {
	for _, x := range l[:cap(l)] {
		spoil(x.Old, "spoilt")
		spoil(x.New, "spoilt")
	}
	spoil(l, api.Prim{Path: "spoilt"})
}

// spoilSet changes all that can be reached from patches.
func spoilSet(l []api.Patch) {
	for _, p := range l[:cap(l)] {
		spoilBody(p.Body)
		spoil(p.Deps, "spoilt")
	}
	spoil(l, patch("spoilt"))
}

// answers are all that calls answer of a set like roomy, and of some names: patches, and names.
func answers(t *testing.T, l []api.Patch, names []string) ([][]api.Patch, [][]string) {
	t.Helper()
	var sets [][]api.Patch
	var lists [][]string
	took := func(l []api.Patch, e api.Errno) {
		if e != api.OK || len(l) == 0 {
			t.Fatalf("it is %s, %d", show(l), e)
		}
		sets = append(sets, l)
	}
	took(inventory.Wants(l, names, names[:1]))
	took(inventory.Wants(l, names[:0], names))
	took(inventory.Without(l, names))
	took(inventory.Without(l, names[:0]))
	took(inventory.Join(l, l))
	took(inventory.Join(l[:5], l))
	took(inventory.Join(l, l[1:4]))
	took(inventory.Join(l[:2], l[2:]))
	took(inventory.Join(l, nil))
	took(inventory.Join(nil, l))
	for _, name := range words("", "b", "g") {
		list, e := inventory.Since(l, name)
		if e != api.OK || len(list) == 0 {
			t.Fatalf("Since %s it is %q, %d", name, list, e)
		}
		lists = append(lists, list)
	}
	newest, e := inventory.Newest(l, withRoom("e", "g"))
	if newest != "g" || e != api.OK {
		t.Fatalf("it is %q, %d", newest, e)
	}
	return sets, lists
}

// wrong has all calls answer errors, of a set like roomy.
func wrong(t *testing.T, l []api.Patch) {
	t.Helper()
	is := func(want api.Errno) func(l []api.Patch, e api.Errno) {
		return func(l []api.Patch, e api.Errno) {
			t.Helper()
			if e != want || len(l) > 0 {
				t.Errorf("it is %s, %d; want %d", show(l), e, want)
			}
		}
	}
	names, twice := withRoom("a", "z"), append(slices.Clone(l), l[0])
	clash := append(slices.Clone(l[:5]), api.Patch{Name: "f", Deps: l[0].Deps})
	is(api.ErrArg)(inventory.Wants(twice, names, names))
	is(api.ErrArg)(inventory.Without(twice, names))
	is(api.ErrArg)(inventory.Join(l, twice))
	is(api.ErrArg)(inventory.Join(twice, l))
	is(api.ErrNone)(inventory.Wants(l, names, names))
	is(api.ErrNone)(inventory.Without(l, names))
	is(api.ErrClash)(inventory.Join(l, clash))
	is(api.ErrClash)(inventory.Join(clash, l))
	is(api.ErrLoop)(inventory.Join(l[:3], l[1:3]))
	is(api.ErrLoop)(inventory.Join(l[:2], l[4:]))
}

// TestHandedIn: what is handed in stays as it was, its spare room too, whatever is done to what comes out.
func TestHandedIn(t *testing.T) {
	l, names := roomy(), withRoom("d", "b", "b")
	was, wasNames := whole(roomy()), slices.Clone(names[:cap(names)])
	sets, lists := answers(t, l, names)
	wrong(t, l)
	for _, set := range sets {
		spoilSet(set)
	}
	for _, list := range lists {
		spoil(list, "spoilt")
	}
	if !slices.EqualFunc(whole(l), was, identical) {
		t.Errorf("%s became %s", show(was), show(whole(l)))
	}
	if !slices.Equal(names[:cap(names)], wasNames) {
		t.Errorf("%q became %q", wasNames, names[:cap(names)])
	}
}

// TestAnswersAreNew: what is done to what was handed in is not to be seen in an answer.
func TestAnswersAreNew(t *testing.T) {
	l, names := roomy(), withRoom("d", "b", "b")
	sets, lists := answers(t, l, names)
	spoilSet(l)
	spoil(names, "spoilt")
	wantSets, wantLists := answers(t, roomy(), withRoom("d", "b", "b"))
	for i, want := range wantSets {
		if !slices.EqualFunc(sets[i], want, identical) {
			t.Errorf("answer %d: %s became %s", i, show(want), show(sets[i]))
		}
	}
	for i, want := range wantLists {
		if !slices.Equal(lists[i], want) {
			t.Errorf("list %d: %q became %q", i, want, lists[i])
		}
	}
}

// TestListsOfOneAnswer: no two of them share memory, though those that were handed in did.
func TestListsOfOneAnswer(t *testing.T) {
	sets, _ := answers(t, roomy(), words("d", "b", "b"))
	wants, _ := answers(t, roomy(), words("d", "b", "b"))
	for at, l := range sets {
		want := wants[at]
		for i, p := range l {
			spoil(p.Deps, "spoilt")
			for j, x := range p.Body {
				spoil(x.Old, "spoilt")
				if !slices.Equal(x.New, want[i].Body[j].New) {
					t.Fatalf("answer %d: Old and New of a change of %s share memory", at, p.Name)
				}
				spoil(x.New, "spoilt")
				if !slices.EqualFunc(p.Body[j+1:], want[i].Body[j+1:], identicalChange) {
					t.Fatalf("answer %d: a change of %s shares memory with one behind it", at, p.Name)
				}
			}
			spoilBody(p.Body)
			if !slices.EqualFunc(l[i+1:], want[i+1:], identical) {
				t.Fatalf("answer %d: %s shares memory with one behind it", at, want[i].Name)
			}
		}
	}
}

// TestOnceMore: the same of the same, in whatever order a map is gone through, and whatever was asked ahead of it.
func TestOnceMore(t *testing.T) {
	l := row(backward(numbered(60)), func(ahead []string) []string { return ahead[len(ahead)/2 : (len(ahead)+len(ahead)/2)/2] })
	for range 20 {
		for _, l := range [][]api.Patch{l, ground(), roomy(), wrongSets()[3], nil} {
			askNewest(t, l, "d.010", "d.013", "t2", "t3", "t5", "e")
			askSince(t, l, "d.013")
			askSince(t, l, "g")
			askWants(t, l, words("a", "d.040"), words("d.010", "d.020"))
			askWants(t, l, words("b"), words("f", "g"))
			askWithout(t, l, "d.030")
			askWithout(t, l, "b")
			askJoin(t, l, backward(l))
			askJoin(t, l[:len(l)/2], l)
			askJoin(t, ground(), l)
		}
	}
}
