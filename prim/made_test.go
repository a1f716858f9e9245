package prim_test

import (
	"math/rand"
	"slices"
	"testing"

	"counterpane/api"
	"counterpane/prim"
)

// shortTrees are all trees of some few things.
func shortTrees() [][]api.Entry {
	of := [][]api.Entry{
		{dir("a"), text("a"), text("a", "x"), data("a", ""), data("a", "x")},
		{text("a-", "x y")},
		{dir("a/b"), text("a/b", "y", "x"), data("a/b", "y")},
		{text("a/b/c", "x")},
		{dir("b"), text("b"), data("b", "x")},
		{text("b/a"), dir("b/a")},
	}
	all := [][]api.Entry{nil}
	for _, choice := range of {
		for _, l := range all {
			for _, x := range choice {
				if m := append(l[:len(l):len(l)], x); treeByWords(m) {
					all = append(all, m)
				}
			}
		}
	}
	return all
}

// shortPatches are patches of all kinds, of the paths of shortTrees and others, and some that are not right.
func shortPatches() []api.Prim {
	paths := []string{"a", "a-", "a/b", "a/b/c", "b", "b/a", "c", "b/c", "", "a/"}
	var l []api.Prim
	for _, p := range paths {
		for kind := api.AddDir; kind <= api.RmData; kind++ {
			l = append(l, plain(kind, p))
		}
		for at := -1; at <= 3; at++ {
			for _, old := range [][]string{nil, {"x"}, {"y", "x"}, {""}} {
				l = append(l, linesOf(p, at, old, nil), linesOf(p, at, old, []string{"z"}), linesOf(p, at, old, []string{"x", "y"}))
			}
		}
		for _, from := range []string{"", "x", "y", "z"} {
			for _, to := range []string{"", "x", "y", "z"} {
				l = append(l, token(p, from, to), bytesOf(p, from, to))
			}
		}
		for _, to := range paths {
			l = append(l, moved(p, to))
		}
	}
	return l
}

// holds asks P8.1 and P8.2 of one patch on a tree.
func holds(t *testing.T, l []api.Entry, p api.Prim) ([]api.Entry, api.Errno) {
	t.Helper()
	made, e := prim.Apply(l, p)
	if want, wanted := applyByWords(l, p); e != wanted || !alike(made, want) {
		t.Fatalf("Apply(%s, %s) is %s, %d; want %s, %d", show(l), show(p), show(made), e, show(want), wanted)
	}
	if e != api.OK {
		return nil, e
	}
	if !treeByWords(made) {
		t.Fatalf("Apply(%s, %s) is no tree: %s", show(l), show(p), show(made))
	}
	if !alike(others(l, p), others(made, p)) {
		t.Fatalf("Apply(%s, %s) is %s: others are not as they were", show(l), show(p), show(made))
	}
	return made, e
}

// others are the things that are apart from a patch's Path, and from where it moves that.
func others(l []api.Entry, p api.Prim) []api.Entry {
	var out []api.Entry
	for _, x := range l {
		if apart(x.Path, p.Path) && (p.Kind != api.Move || apart(x.Path, p.To)) {
			out = append(out, x)
		}
	}
	return out
}

// seenAll asks for so many patches of each kind that were done, and of each error.
func seenAll(t *testing.T, kinds map[int]int, errors map[api.Errno]int, least int) {
	t.Helper()
	for kind := api.AddDir; kind <= api.Move; kind++ {
		if kinds[kind] < least {
			t.Errorf("only %d of kind %d were done", kinds[kind], kind)
		}
	}
	for _, e := range []api.Errno{api.OK, api.ErrArg, api.ErrThere, api.ErrGone, api.ErrKind, api.ErrSame} {
		if errors[e] < least {
			t.Errorf("only %d were %d", errors[e], e)
		}
	}
}

func TestShortTrees(t *testing.T) {
	kinds, errors := map[int]int{}, map[api.Errno]int{}
	patches := shortPatches()
	for _, l := range shortTrees() {
		for _, p := range patches {
			_, e := holds(t, l, p)
			if errors[e]++; e == api.OK {
				kinds[p.Kind]++
			}
		}
	}
	seenAll(t, kinds, errors, 10)
}

func pick[T any](r *rand.Rand, l ...T) T { return l[r.Intn(len(l))] }

// anyPath is one of few, most of them not deep.
func anyPath(r *rand.Rand) string {
	p := pick(r, "a", "b", "a.", "-", "a0")
	for range pick(r, 0, 0, 1, 1, 2, 3, 4, 7) {
		p += "/" + pick(r, "a", "b", "a-")
	}
	return p
}

// anyThing is one of l, or one that may be there or not.
func anyThing(r *rand.Rand, l []api.Entry) api.Entry {
	if len(l) > 0 && r.Intn(8) > 0 {
		return pick(r, l...)
	}
	return api.Entry{Path: anyPath(r), Kind: 1 + r.Intn(3)}
}

// anyPatch is one that may well be done on l.
func anyPatch(r *rand.Rand, l []api.Entry) api.Prim {
	x := anyThing(r, l)
	in := anyThing(r, l).Path + "/" + pick(r, "a", "b", "a-", "c", "..")
	if r.Intn(3) == 0 {
		in = anyPath(r)
	}
	words := []string{"x", "y", "z", "xx", "x y", ""}
	kind := x.Kind
	if r.Intn(8) == 0 {
		kind = 1 + r.Intn(3)
	}
	switch n := r.Intn(10); {
	case n < 3:
		return plain(pick(r, api.AddDir, api.AddDir, api.AddText, api.AddData), in)
	case n == 3 || n > 4 && kind == api.KindDir:
		return moved(x.Path, in)
	case n == 4:
		return plain(2*kind, x.Path)
	case kind == api.KindData:
		return bytesOf(x.Path, pick(r, x.Data, x.Data, pick(r, words...)), pick(r, "", pick(r, words...)))
	case n < 8:
		return anyLines(r, x, words)
	}
	return token(x.Path, pick(r, words...), pick(r, words...))
}

// anyLines is a Lines that most often fits a thing.
func anyLines(r *rand.Rand, x api.Entry, words []string) api.Prim {
	at := r.Intn(len(x.Lines) + 1)
	if r.Intn(3) == 0 {
		at = 0
	}
	to := at + r.Intn(len(x.Lines)-at+1)
	if r.Intn(3) == 0 {
		to = len(x.Lines)
	}
	old := slices.Clone(x.Lines[at:to])
	if r.Intn(8) == 0 {
		old = append(old, pick(r, words...))
	}
	var now []string
	for range r.Intn(3) {
		now = append(now, pick(r, words...))
	}
	return linesOf(x.Path, at, old, now)
}

// TestLongRows goes on from tree to tree; what All makes of the whole row is what its patches make one by one.
func TestLongRows(t *testing.T) {
	r := rand.New(rand.NewSource(5))
	kinds, errors := map[int]int{}, map[api.Errno]int{}
	for n := range 1500 {
		begin := chain(n%7, dir("d"), dir("e"))
		l := begin
		var done []api.Prim
		for range 150 {
			p := anyPatch(r, l)
			made, e := holds(t, l, p)
			errors[e]++
			if e != api.OK {
				if r.Intn(50) == 0 {
					wantAll(t, begin, append(slices.Clone(done), p, api.Prim{}), nil, e, len(done))
				}
				continue
			}
			kinds[p.Kind]++
			l, done = made, append(done, p)
		}
		wantAll(t, begin, done, l, api.OK, 0)
	}
	seenAll(t, kinds, errors, 300)
	if errors[api.ErrPath] < 50 {
		t.Errorf("only %d were too deep", errors[api.ErrPath])
	}
}

// TestAnyRows holds All against the words, whatever the rows are.
func TestAnyRows(t *testing.T) {
	r := rand.New(rand.NewSource(6))
	far := 0
	for range 10000 {
		l := some()
		if r.Intn(20) == 0 {
			l = append(l, l[0])
		}
		var ps []api.Prim
		for range r.Intn(8) {
			ps = append(ps, anyPatch(r, l))
		}
		want, wanted, place := allByWords(l, ps)
		wantAll(t, l, ps, want, wanted, place)
		if place > 1 || wanted == api.OK && len(ps) > 1 {
			far++
		}
	}
	if far < 300 {
		t.Errorf("only %d went far", far)
	}
}

// roomyTree is a tree with spare room behind it, and behind all its lines; and all of that.
func roomyTree() ([]api.Entry, []api.Entry) {
	room := append(some(), text("y", "spare"), dir("z"))
	for i := range room {
		lines := append(make([]string, 0, 8), room[i].Lines...)
		for j := range 8 - len(lines) {
			lines[:8][len(lines)+j] = "spare"
		}
		room[i].Lines = lines
	}
	return room[:len(room)-2], room
}

// whole is a tree's things with all room behind their lines.
func whole(l []api.Entry) []api.Entry {
	m := slices.Clone(l)
	for i := range m {
		m[i].Lines = slices.Clone(m[i].Lines[:cap(m[i].Lines)])
	}
	return m
}

// spoil changes all that can be reached from an answer.
func spoil(l []api.Entry) {
	for i := range l {
		lines := l[i].Lines[:cap(l[i].Lines)]
		for j := range lines {
			lines[j] = "spoilt"
		}
	}
	l = l[:cap(l)]
	for i := range l {
		l[i] = api.Entry{Path: "spoilt"}
	}
}

// fitting are patches of all kinds that can be done on some, and one that cannot.
func fitting() []api.Prim {
	return []api.Prim{
		plain(api.AddDir, "q"), plain(api.AddText, "a/q"), plain(api.AddData, "0"), plain(api.RmDir, "e/f"), plain(api.RmText, "a."), plain(api.RmData, "b"),
		linesOf("c", 1, []string{"two"}, []string{"2", "3"}), linesOf("c", 3, nil, []string{"end"}), linesOf("c", 0, []string{"one"}, nil), linesOf("a.", 0, nil, []string{"x"}), linesOf("c", 0, []string{"one"}, []string{"one"}),
		token("c", "one", "1"), token("c", "none", "1"), bytesOf("a-b", "\x00", ""), moved("a", "z"), moved("c", "a/z"), moved("q", "r"),
	}
}

// TestListsHandedIn: they, what lies in them, and their spare room stay as they were, whatever is done to what comes out.
func TestListsHandedIn(t *testing.T) {
	for _, p := range fitting() {
		old, now := append(make([]string, 0, 4), p.Old...), append(make([]string, 0, 4), p.New...)
		p.Old, p.New = old, now
		for _, call := range []func(l []api.Entry, ps []api.Prim) []api.Entry{
			func(l []api.Entry, ps []api.Prim) []api.Entry { made, _ := prim.Apply(l, ps[0]); return made },
			func(l []api.Entry, ps []api.Prim) []api.Entry { made, _, _ := prim.All(l, ps); return made },
			func(l []api.Entry, ps []api.Prim) []api.Entry { made, _, _ := prim.All(l, ps[:0]); return made },
		} {
			l, room := roomyTree()
			was, wasOld, wasNew := whole(room), slices.Clone(old[:4]), slices.Clone(now[:4])
			ps := append(make([]api.Prim, 0, 2), p)
			prim.Right(p)
			spoil(call(l, ps))
			if !alike(whole(room), was) {
				t.Fatalf("%s: %s became %s", show(p), show(was), show(room))
			}
			if !slices.Equal(old[:4], wasOld) || !slices.Equal(now[:4], wasNew) || ps[:2][1].Kind != 0 || ps[0].Path != p.Path {
				t.Fatalf("%s: the patch is changed", show(p))
			}
		}
	}
}

// TestAnswersAreNew: no two lists of an answer share memory, and what is done to what was handed in is not to be seen in it.
func TestAnswersAreNew(t *testing.T) {
	for _, p := range fitting() {
		l, _ := roomyTree()
		p.Old, p.New = slices.Clone(p.Old), slices.Clone(p.New)
		want := applied(some(), p)
		made, _ := prim.Apply(l, p)
		spoil(l)
		spoil([]api.Entry{{Lines: p.Old}, {Lines: p.New}})
		if !alike(made, want) {
			t.Fatalf("%s: %s became %s", show(p), show(want), show(made))
		}
		for i := range made {
			spoil([]api.Entry{made[i]})
			if !alike(made[i+1:], want[i+1:]) {
				t.Fatalf("%s: %s became %s", show(p), show(want), show(made))
			}
		}
	}
}

// TestOnceMore: the same of the same, in whatever order a map is gone through.
func TestOnceMore(t *testing.T) {
	l := append(full()[:900], text("t"))
	for range 20 {
		for _, p := range []api.Prim{moved("d", "a"), plain(api.AddDir, "a"), plain(api.RmDir, "d"), token("d/0007", "x", "y")} {
			holds(t, l, p)
		}
	}
}
