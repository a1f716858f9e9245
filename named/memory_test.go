package named_test

import (
	"bytes"
	"slices"
	"testing"

	"counterpane/api"
	"counterpane/named"
)

// roomy is a patch with spare room behind all its lists, in which something stands; some of these are one list.
func roomy() api.Patch {
	withRoom := func(l ...string) []string { return append(l, "spare", "spare", "spare")[:len(l)] }
	both := withRoom("x", "y")
	p := api.Patch{Name: "p", Deps: withRoom("a", "b", "c")}
	p.Body = append(p.Body, linesOf("t", 0, both, both), linesOf("u", 3, nil, both), bytesOf("b", "x", "y"), linesOf("v", 1, withRoom("x"), withRoom()), plain(api.AddDir, "spare"))[:4]
	return p
}

// whole is a patch with all that stands in its spare room.
func whole(p api.Patch) api.Patch {
	p.Deps = slices.Clone(p.Deps[:cap(p.Deps)])
	p.Body = slices.Clone(p.Body[:cap(p.Body)])
	for i, x := range p.Body {
		p.Body[i].Old, p.Body[i].New = slices.Clone(x.Old[:cap(x.Old)]), slices.Clone(x.New[:cap(x.New)])
	}
	return p
}

// spoil changes all of a list, and of its spare room.
func spoil[T any](l []T, to T) {
	l = l[:cap(l)]
	for i := range l {
		l[i] = to
	}
}

// spoilPatch changes all that can be reached from a patch.
func spoilPatch(p api.Patch) {
	for _, x := range p.Body[:cap(p.Body)] {
		spoil(x.Old, "spoilt")
		spoil(x.New, "spoilt")
	}
	spoil(p.Deps, "spoilt")
	spoil(p.Body, plain(api.AddDir, "spoilt"))
}

// TestHandedIn: what is handed in stays as it was, its spare room too, whatever is done to what comes out.
func TestHandedIn(t *testing.T) {
	p, was := roomy(), whole(roomy())
	named.Right(p)
	b, e := named.Put(p)
	if e != api.OK {
		t.Fatalf("Put is %d", e)
	}
	given := append(slices.Clone(b), "spare"...)
	wasGiven := slices.Clone(given)
	q, e := named.Get(given[:len(b)])
	if e != api.OK || !alike(p, q) {
		t.Fatalf("Get is %s, %d", show(q), e)
	}
	spoil(b, '0')
	spoilPatch(q)
	if !alike(whole(p), was) {
		t.Errorf("%s became %s", show(was), show(whole(p)))
	}
	if !bytes.Equal(given, wasGiven) {
		t.Errorf("%q became %q", wasGiven, given)
	}
}

// TestAnswersAreNew: what is done to what was handed in is not to be seen in an answer, and no two lists of it share memory.
func TestAnswersAreNew(t *testing.T) {
	p, want := roomy(), putByWords(roomy())
	b, _ := named.Put(p)
	spoilPatch(p)
	if !bytes.Equal(b, want) {
		t.Fatalf("%q became %q", want, b)
	}
	q, _ := named.Get(b)
	spoil(b, '0')
	if !alike(q, roomy()) {
		t.Fatalf("%s became %s", show(roomy()), show(q))
	}
	spoil(q.Deps, "spoilt")
	for i, x := range q.Body {
		spoil(x.Old, "spoilt")
		if !slices.Equal(x.New, roomy().Body[i].New) {
			t.Fatalf("Old and New of %s share memory", show(x))
		}
		spoil(x.New, "spoilt")
		if !slices.EqualFunc(q.Body[i+1:], roomy().Body[i+1:], alikePrim) {
			t.Fatalf("%s shares memory with one behind it", show(x))
		}
	}
}

// TestSpareRoom: that of each list of an answer is its own, whichever is changed first.
func TestSpareRoom(t *testing.T) {
	q, _ := named.Get(putByWords(roomy()))
	for i, x := range slices.Backward(q.Body) {
		spoil(x.New, "spoilt")
		if !slices.Equal(x.Old, roomy().Body[i].Old) {
			t.Fatalf("New and Old of %s share memory", show(x))
		}
		spoil(x.Old, "spoilt")
		if !slices.EqualFunc(q.Body[:i], roomy().Body[:i], alikePrim) {
			t.Fatalf("%s shares memory with one ahead of it", show(x))
		}
	}
	if !slices.Equal(q.Deps, roomy().Deps) {
		t.Fatalf("Deps share memory with Body: %s", show(q))
	}
}

// TestOnceMore: the same of the same, whatever was asked ahead of it.
func TestOnceMore(t *testing.T) {
	for range 3 {
		for _, p := range rightOnes() {
			put(t, p)
			corrupt(t, putByWords(api.Patch{Name: p.Name, Deps: words(p.Name)}))
			put(t, patch("A", nil))
		}
	}
	if _, e := named.Get(nil); e != api.ErrCorrupt {
		t.Errorf("Get of nothing is %d", e)
	}
}
