package codec_test

import (
	"bytes"
	"slices"
	"testing"

	"counterpane/api"
	"counterpane/codec"
)

func withRoom(l ...string) []string { return append(l, "spare", "spare", "spare")[:len(l)] }

// roomy is a set with spare room behind all its lists, in which something stands; some of these are one list.
func roomy() []api.Patch {
	lines, deps := withRoom("x", "y"), withRoom("a", "b")
	change := func(old, now []string) api.Prim {
		return api.Prim{Kind: api.Lines, Path: "t", Old: old, New: now}
	}
	body := append([]api.Prim{change(lines, lines), change(withRoom(), lines), change(withRoom("x"), withRoom())}, change(lines, nil))[:3]
	l := []api.Patch{
		{Name: "d", Deps: deps, Body: body}, {Name: "c", Deps: deps, Body: body}, {Name: "b", Deps: withRoom("a"), Body: body[:2]}, {Name: "a", Deps: withRoom(), Body: body[1:]},
		{Name: "e", Deps: deps[:1], Body: body[:0]}, {Name: "f", Body: body}, {Name: "g", Deps: deps},
	}
	return append(l, patch("spare spare"), patch("spare"))[:len(l)]
}

// roomyAsk is a message likewise, both of whose lists are one.
func roomyAsk() api.Msg {
	names := withRoom("a", "b", "c")
	return ask(names, names)
}

// whole is patches with all that stands in spare room.
func whole(l []api.Patch) []api.Patch {
	l = slices.Clone(l[:cap(l)])
	for i, p := range l {
		l[i].Deps, l[i].Body = slices.Clone(p.Deps[:cap(p.Deps)]), slices.Clone(p.Body[:cap(p.Body)])
		for j, x := range l[i].Body {
			l[i].Body[j].Old, l[i].Body[j].New = slices.Clone(x.Old[:cap(x.Old)]), slices.Clone(x.New[:cap(x.New)])
		}
	}
	return l
}

// wholeMessage is likewise.
func wholeMessage(m api.Msg) api.Msg {
	m.Names, m.Have, m.Patches = slices.Clone(m.Names[:cap(m.Names)]), slices.Clone(m.Have[:cap(m.Have)]), whole(m.Patches)
	return m
}

// spoil changes all of a list, and of its spare room.
func spoil[T any](l []T, to T) {
	l = l[:cap(l)]
	for i := range l {
		l[i] = to
	}
}

// spoilBody changes all that can be reached from changes.
func spoilBody(l []api.Prim) {
	for _, x := range l[:cap(l)] {
		spoil(x.Old, "spoilt")
		spoil(x.New, "spoilt")
	}
	spoil(l, api.Prim{Path: "spoilt"})
}

// spoilSet changes all that can be reached from patches.
func spoilSet(l []api.Patch) {
	for _, p := range l[:cap(l)] {
		spoilBody(p.Body)
		spoil(p.Deps, "spoilt")
	}
	spoil(l, patch("spoilt"))
}

func spoilMessage(m api.Msg) {
	spoil(m.Names, "spoilt")
	spoil(m.Have, "spoilt")
	spoilSet(m.Patches)
}

// TestHandedIn: what is put stays as it was, its spare room too, whatever is done to what comes out.
func TestHandedIn(t *testing.T) {
	l, m, given := roomy(), roomyAsk(), give(roomy()...)
	wasSet, wasAsk, wasGiven := whole(roomy()), wholeMessage(roomyAsk()), wholeMessage(give(roomy()...))
	twice, askTwice := append(roomy(), roomy()[:1]...), ask(withRoom("a", "b", "c"), withRoom("b", "b"))
	wasTwice, wasAskTwice := whole(twice), wholeMessage(askTwice)
	for range 2 {
		b, e := codec.PutBundle(l)
		c, f := codec.Put(m)
		d, g := codec.Put(given)
		if e != api.OK || f != api.OK || g != api.OK {
			t.Fatalf("they are %d, %d, %d", e, f, g)
		}
		spoil(b, '0')
		spoil(c, '0')
		spoil(d, '0')
	}
	_, e := codec.PutBundle(twice)
	_, f := codec.Put(give(twice...))
	if _, g := codec.Put(askTwice); e != api.ErrArg || f != api.ErrArg || g != api.ErrArg {
		t.Fatalf("they are %d, %d, %d", e, f, g)
	}
	if !alikeSets(whole(l), wasSet) || !alikeSets(whole(twice), wasTwice) {
		t.Errorf("%s became %s, or %s %s", show(wasSet), show(whole(l)), show(wasTwice), show(whole(twice)))
	}
	for _, c := range [][2]api.Msg{{wasAsk, m}, {wasGiven, given}, {wasAskTwice, askTwice}} {
		if !alikeMessages(wholeMessage(c[1]), c[0]) {
			t.Errorf("%s became %s", show(c[0]), show(wholeMessage(c[1])))
		}
	}
}

// bytesOf are those of a bundle and of two messages.
func bytesOf(t *testing.T) (bundle, asked, given []byte) {
	t.Helper()
	bundle, _ = putBundle(t, roomy())
	asked, _ = put(t, roomyAsk())
	given, _ = put(t, give(roomy()...))
	return bundle, asked, given
}

// TestBytesHandedIn: what is read stays as it was, its spare room too, whatever is done to what comes out.
func TestBytesHandedIn(t *testing.T) {
	bundle, asked, given := bytesOf(t)
	for _, b := range [][]byte{bundle, asked, given, []byte("2:7:1:b0:0:7:1:a0:0:"), []byte("1:2:1:b1:a0:0:0:"), []byte("01:"), nil} {
		room := append(bytes.Clone(b), "0:spare 1:1:"...)
		was := bytes.Clone(room)
		for n := range room {
			l, _ := codec.GetBundle(room[:n])
			spoilSet(l)
			m, _ := codec.Get(room[:n])
			spoilMessage(m)
		}
		if !bytes.Equal(room, was) {
			t.Errorf("%q became %q", was, room)
		}
	}
}

// TestAnswersAreNew: what is done to what was handed in is not to be seen in an answer.
func TestAnswersAreNew(t *testing.T) {
	wantBundle, wantAsked, wantGiven := bytesOf(t)
	l, m, o := roomy(), roomyAsk(), give(roomy()...)
	bundle, _ := codec.PutBundle(l)
	asked, _ := codec.Put(m)
	given, _ := codec.Put(o)
	spoilSet(l)
	spoilMessage(m)
	spoilMessage(o)
	for i, want := range [][]byte{wantBundle, wantAsked, wantGiven} {
		if got := [][]byte{bundle, asked, given}[i]; !bytes.Equal(got, want) {
			t.Errorf("%q became %q", want, got)
		}
	}
	l, _ = codec.GetBundle(bundle)
	m, _ = codec.Get(asked)
	o, _ = codec.Get(given)
	spoil(bundle, '0')
	spoil(asked, '0')
	spoil(given, '0')
	if !alikeSets(l, byName(roomy())) || !alikeSets(o.Patches, byName(roomy())) || !alikeMessages(m, roomyAsk()) {
		t.Errorf("they became %s, %s, %s", show(l), show(m), show(o))
	}
	// Nor is what is done to one answer in the next one of the same.
	for range 2 {
		l, _ = codec.GetBundle(wantBundle)
		o, _ = codec.Get(wantGiven)
		if !alikeSets(l, byName(roomy())) || !alikeSets(o.Patches, byName(roomy())) {
			t.Errorf("they became %s, %s", show(l), show(o))
		}
		spoilSet(l)
		spoilSet(o.Patches)
	}
}

// TestListsOfOneAnswer: no two of them share memory, whichever is changed first.
func TestListsOfOneAnswer(t *testing.T) {
	bundle, asked, given := bytesOf(t)
	want := byName(roomy())
	l, _ := codec.GetBundle(bundle)
	o, _ := codec.Get(given)
	for _, l := range [][]api.Patch{l, o.Patches} {
		for i, p := range l {
			spoil(p.Deps, "spoilt")
			for j, x := range p.Body {
				spoil(x.Old, "spoilt")
				if !slices.Equal(x.New, want[i].Body[j].New) {
					t.Fatalf("Old and New of a change of %s share memory", p.Name)
				}
				spoil(x.New, "spoilt")
				if !slices.EqualFunc(p.Body[j+1:], want[i].Body[j+1:], alikeChange) {
					t.Fatalf("a change of %s shares memory with one behind it", p.Name)
				}
			}
			spoilBody(p.Body)
			if !alikeSets(l[i+1:], want[i+1:]) {
				t.Fatalf("%s shares memory with one behind it", p.Name)
			}
		}
	}
	m, _ := codec.Get(asked)
	spoil(m.Names, "spoilt")
	if !slices.Equal(m.Have, roomyAsk().Have) {
		t.Errorf("Have became %q", m.Have)
	}
	m, _ = codec.Get(asked)
	spoil(m.Have, "spoilt")
	if !slices.Equal(m.Names, roomyAsk().Names) {
		t.Errorf("Names became %q", m.Names)
	}
}

// TestOnceMore: the same of the same, whatever was asked ahead of it.
func TestOnceMore(t *testing.T) {
	bundle, asked, given := bytesOf(t)
	for range 5 {
		for _, l := range append(wrongSets(), roomy(), nil, backward(row(api.MaxPatches)), patches(heavy("a", 1<<16))) {
			putBundle(t, l)
			put(t, give(l...))
		}
		put(t, roomyAsk())
		for _, b := range [][]byte{bundle, asked, given, nil} {
			getBundle(t, b)
			get(t, b)
			corrupt(t, append(bytes.Clone(b), '0'))
			corruptBundle(t, append(bytes.Clone(b), '0'))
		}
	}
}
