package record_test

import (
	"fmt"
	"math/rand"
	"slices"
	"testing"

	"counterpane/api"
	"counterpane/diff"
	"counterpane/invert"
	"counterpane/prim"
	"counterpane/record"
	"counterpane/tree"
)

// at is the place of a thing of that path and kind in a tree, or -1.
func at(l []api.Entry, x api.Entry) int {
	for i, y := range l {
		if y.Path == x.Path && y.Kind == x.Kind {
			return i
		}
	}
	return -1
}

// byWords is the chapter's L1, word by word, of two trees.
func byWords(old, now []api.Entry) []api.Prim {
	var l []api.Prim
	for i := len(old) - 1; i >= 0; i-- {
		x := old[i]
		if at(now, x) >= 0 {
			continue
		}
		if x.Kind == 2 && len(x.Lines) > 0 {
			l = append(l, linesOf(x.Path, 0, x.Lines, nil))
		}
		if x.Kind == 3 && x.Data != "" {
			l = append(l, bytesOf(x.Path, x.Data, ""))
		}
		l = append(l, plain([]int{0, 2, 4, 6}[x.Kind], x.Path))
	}
	for _, x := range now {
		i := at(old, x)
		was := api.Entry{}
		if i < 0 {
			l = append(l, plain([]int{0, 1, 3, 5}[x.Kind], x.Path))
		} else {
			was = old[i]
		}
		if x.Kind == 2 {
			for _, h := range diff.Diff(was.Lines, x.Lines) {
				l = append(l, linesOf(x.Path, h.At, h.Old, h.New))
			}
		}
		if x.Kind == 3 && was.Data != x.Data {
			l = append(l, bytesOf(x.Path, was.Data, x.Data))
		}
	}
	return l
}

// holds asks P12.1, P12.2 and P12.3 of two trees, and tells what was recorded.
func holds(t *testing.T, old, now []api.Entry) []api.Prim {
	t.Helper()
	l, e := record.Record(old, now)
	if want := byWords(old, now); e != api.OK || !alikeRow(l, want) {
		t.Fatalf("Record(%s, %s) is %s, %d; want %s", show(old), show(now), show(l), e, show(want))
	}
	if made, e, place := prim.All(old, l); e != api.OK || !alike(made, now) {
		t.Fatalf("%s, on %s, makes %s, %d at %d; want %s", show(l), show(old), show(made), e, place, show(now))
	}
	if back, e, place := prim.All(now, invert.All(l)); e != api.OK || !alike(back, old) {
		t.Fatalf("%s, undone, makes %s of %s, %d at %d; want %s", show(l), show(back), show(now), e, place, show(old))
	}
	if alike(old, now) && len(l) > 0 {
		t.Fatalf("of %s and itself is recorded %s", show(old), show(l))
	}
	for _, p := range l {
		if !prim.Right(p) {
			t.Fatalf("Record(%s, %s) has %s, which is not right", show(old), show(now), show(p))
		}
	}
	return l
}

// seenAll asks for so many patches of each kind that is recorded, and none of another.
func seenAll(t *testing.T, kinds map[int]int, least int) {
	t.Helper()
	for kind := api.AddDir; kind <= api.Move; kind++ {
		if kind == api.Token || kind == api.Move {
			if kinds[kind] > 0 {
				t.Errorf("%d of kind %d were recorded", kinds[kind], kind)
			}
		} else if kinds[kind] < least {
			t.Errorf("only %d of kind %d were recorded", kinds[kind], kind)
		}
	}
}

// shortTrees are all trees of some few things.
func shortTrees() [][]api.Entry {
	of := [][]api.Entry{
		{dir("a"), text("a"), text("a", "x", "y", "x"), text("a", "y"), data("a", ""), data("a", "x")},
		{text("a-", "x y")},
		{dir("a/b"), text("a/b", "y", "x"), data("a/b", "y")},
		{text("a/b/c", "x"), data("a/b/c", "x")},
		{dir("b"), text("b"), text("b", "x", "x"), data("b", ""), data("b", "y")},
		{text("b/a"), dir("b/a")},
	}
	all := [][]api.Entry{nil}
	for _, choice := range of {
		for _, l := range all {
			for _, x := range choice {
				if m := append(l[:len(l):len(l)], x); tree.Right(m) {
					all = append(all, m)
				}
			}
		}
	}
	return all
}

// TestShortTrees has all pairs of short trees.
func TestShortTrees(t *testing.T) {
	kinds := map[int]int{}
	trees := shortTrees()
	for _, old := range trees {
		for _, now := range trees {
			for _, p := range holds(t, old, now) {
				kinds[p.Kind]++
			}
		}
	}
	seenAll(t, kinds, 100)
}

func pick[T any](r *rand.Rand, l ...T) T { return l[r.Intn(len(l))] }

// anyLines are some few, of few that there are.
func anyLines(r *rand.Rand) []string {
	var l []string
	for range r.Intn(9) {
		l = append(l, pick(r, "x", "y", "z", "", "x y"))
	}
	return l
}

// anyThing is one that lies at a path.
func anyThing(r *rand.Rand, p string) api.Entry {
	switch r.Intn(4) {
	case 0:
		return text(p, anyLines(r)...)
	case 1:
		return data(p, pick(r, "", "x", "\x00\n", "y"))
	}
	return dir(p)
}

// anyTree is one of up to n things.
func anyTree(r *rand.Rand, n int) []api.Entry {
	var l []api.Entry
	in := []string{""}
	for range n {
		p := pick(r, in...) + pick(r, "a", "b", "a-", "a.", "a0", "ab")
		if x := anyThing(r, p); !slices.ContainsFunc(l, func(y api.Entry) bool { return y.Path == p }) {
			l = append(l, x)
			if x.Kind == api.KindDir && len(p) < 12 {
				in = append(in, p+"/")
			}
		}
	}
	slices.SortFunc(l, func(x, y api.Entry) int { return slices.Compare([]byte(x.Path), []byte(y.Path)) })
	return l
}

// changed is a tree with some of its things otherwise, or gone.
func changed(r *rand.Rand, l []api.Entry) []api.Entry {
	var m []api.Entry
	for _, x := range l {
		switch r.Intn(6) {
		case 0:
			continue
		case 1:
			x = anyThing(r, x.Path)
		case 2:
			x.Lines = slices.Clone(x.Lines)
			if n := len(x.Lines); n > 0 {
				x.Lines[r.Intn(n)] = "w"
			}
		}
		if y := append(m[:len(m):len(m)], x); tree.Right(y) {
			m = y
		}
	}
	return m
}

// TestAnyTrees has trees of many things, with others, and with ones that they became.
func TestAnyTrees(t *testing.T) {
	r := rand.New(rand.NewSource(12))
	kinds := map[int]int{}
	for range 4000 {
		old := anyTree(r, r.Intn(40))
		for _, now := range [][]api.Entry{changed(r, old), anyTree(r, r.Intn(40)), slices.Clone(old)} {
			for _, p := range holds(t, old, now) {
				kinds[p.Kind]++
			}
		}
	}
	seenAll(t, kinds, 1000)
}

// TestFullTrees: however many things go and come, there are never more than there may be.
func TestFullTrees(t *testing.T) {
	others := things(dir("c"))
	for i := range api.MaxEntries - 1 {
		others = append(others, data(fmt.Sprintf("c/%04d", i), "x"))
	}
	exchanged := full("x")
	for i := range exchanged {
		if exchanged[i].Kind == api.KindText {
			exchanged[i] = data(exchanged[i].Path, "x")
		}
	}
	trees := [][]api.Entry{nil, full("x"), full("y"), others, exchanged, full("x")[:api.MaxEntries-1], things(text("c"), text("d", "x"), text("e"))}
	for _, old := range trees {
		for _, now := range trees {
			holds(t, old, now)
		}
	}
}

// TestDeepTrees has things as deep as they may lie, and paths as long as they may be.
func TestDeepTrees(t *testing.T) {
	part := "0123456789abcdef"
	chain := func(n int, last func(p string) api.Entry) []api.Entry {
		l := things(dir(part))
		for range n - 1 {
			l = append(l, dir(l[len(l)-1].Path+"/"+part))
		}
		l[n-1] = last(l[n-1].Path)
		return l
	}
	trees := [][]api.Entry{nil}
	for n := 1; n <= api.MaxDeep; n++ {
		trees = append(trees, chain(n, dir), chain(n, func(p string) api.Entry { return text(p, "x") }), chain(n, func(p string) api.Entry { return data(p, "x") }))
	}
	for _, old := range trees {
		for _, now := range trees {
			holds(t, old, now)
		}
	}
}

// TestLongTexts has texts of many lines, and many hunks.
func TestLongTexts(t *testing.T) {
	var some, other []string
	for i := range 2000 {
		some = append(some, fmt.Sprint(i))
		if i%3 > 0 {
			other = append(other, fmt.Sprint(i))
		}
		if i%5 == 0 {
			other = append(other, "new", "")
		}
	}
	if l := holds(t, things(text("a", some...)), things(text("a", other...))); len(l) < 500 {
		t.Errorf("only %d patches", len(l))
	}
	holds(t, things(text("a", other...)), things(text("a", some...)))
	holds(t, things(text("a", some...)), things(text("b", other...)))
	many := slices.Repeat(words(""), 1<<20)
	if l := holds(t, things(text("a", many...)), things(text("b", many[1:]...))); len(l) != 4 {
		t.Errorf("%d patches", len(l))
	}
}
