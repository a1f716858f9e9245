package commute_test

import (
	"fmt"
	"slices"
	"strings"
	"testing"

	"counterpane/api"
	"counterpane/commute"
	"counterpane/prim"
)

// plain is a patch of a kind that names nothing but a path.
func plain(kind int, p string) api.Prim { return api.Prim{Kind: kind, Path: p} }

func linesOf(p string, at int, old, now []string) api.Prim {
	return api.Prim{Kind: api.Lines, Path: p, At: at, Old: old, New: now}
}

// hunk is a Lines of a, of so many lines that become so many others.
func hunk(at, old, now int) api.Prim {
	return linesOf("a", at, slices.Repeat([]string{"x"}, old), slices.Repeat([]string{"y"}, now))
}

func token(p, from, to string) api.Prim {
	return api.Prim{Kind: api.Token, Path: p, From: from, To: to}
}

func bytesOf(p, from, to string) api.Prim {
	return api.Prim{Kind: api.Bytes, Path: p, From: from, To: to}
}

func moved(p, to string) api.Prim { return api.Prim{Kind: api.Move, Path: p, To: to} }

// changesOf is a change of each kind, of one path.
func changesOf(p string) []api.Prim {
	return []api.Prim{linesOf(p, 3, []string{"x"}, []string{"y"}), token(p, "x", "y"), bytesOf(p, "x", "y")}
}

// additionsOf is an addition of each kind, of one path.
func additionsOf(p string) []api.Prim {
	var l []api.Prim
	for kind := api.AddDir; kind <= api.RmData; kind++ {
		l = append(l, plain(kind, p))
	}
	return l
}

// deep is a path of n parts, all the same one.
func deep(part string, n int) string { return strings.Repeat(part+"/", n-1) + part }

func alikePatch(p, q api.Prim) bool {
	return p.Kind == q.Kind && p.Path == q.Path && p.To == q.To && p.From == q.From && p.At == q.At && slices.Equal(p.Old, q.Old) && slices.Equal(p.New, q.New)
}

func alikeRow(l, m []api.Prim) bool { return slices.EqualFunc(l, m, alikePatch) }

// show tells something, at least its beginning.
func show(what any) string { return fmt.Sprintf("%.300s", fmt.Sprintf("%+v", what)) }

// become asks that p, and q behind it, are first and second the other way about, and these p and q once more (P10.3).
func become(t *testing.T, p, q, first, second api.Prim) {
	t.Helper()
	for _, c := range [][4]api.Prim{{p, q, first, second}, {first, second, p, q}} {
		a, b, is := commute.Commute(c[0], c[1])
		if !is || !alikePatch(a, c[2]) || !alikePatch(b, c[3]) {
			t.Errorf("Commute(%s, %s) is %s, %s, %t; want %s, %s", show(c[0]), show(c[1]), show(a), show(b), is, show(c[2]), show(c[3]))
		}
	}
}

// stay asks that two patches are as they are the other way about, whichever is first.
func stay(t *testing.T, p, q api.Prim) {
	t.Helper()
	become(t, p, q, q, p)
}

// cannot asks that two patches, in that order, cannot be commuted.
func cannot(t *testing.T, p, q api.Prim) {
	t.Helper()
	a, b, is := commute.Commute(p, q)
	if is || !zero(a) || !zero(b) {
		t.Errorf("Commute(%s, %s) is %s, %s, %t", show(p), show(q), show(a), show(b), is)
	}
}

// zero tells whether a patch has nothing in any field, not even an empty list.
func zero(p api.Prim) bool { return alikePatch(p, api.Prim{}) && p.Old == nil && p.New == nil }

// cannotEither asks that of both orders.
func cannotEither(t *testing.T, p, q api.Prim) {
	t.Helper()
	cannot(t, p, q)
	cannot(t, q, p)
}

func TestTwoLines(t *testing.T) {
	for _, c := range []struct{ p, q, first, second api.Prim }{
		{hunk(0, 1, 2), hunk(5, 1, 3), hunk(4, 1, 3), hunk(0, 1, 2)},
		{hunk(0, 1, 2), hunk(3, 1, 0), hunk(2, 1, 0), hunk(0, 1, 2)},
		{hunk(0, 3, 0), hunk(1, 0, 1), hunk(4, 0, 1), hunk(0, 3, 0)},
		{hunk(2, 0, 4), hunk(7, 2, 2), hunk(3, 2, 2), hunk(2, 0, 4)},
		{hunk(2, 5, 5), hunk(8, 1, 0), hunk(8, 1, 0), hunk(2, 5, 5)},
		{hunk(5, 1, 1), hunk(0, 2, 7), hunk(0, 2, 7), hunk(10, 1, 1)},
		{hunk(5, 1, 1), hunk(2, 2, 0), hunk(2, 2, 0), hunk(3, 1, 1)},
		{hunk(1, 0, 9), hunk(0, 0, 1), hunk(0, 0, 1), hunk(2, 0, 9)},
		{hunk(9, 9, 0), hunk(8, 0, 3), hunk(8, 0, 3), hunk(12, 9, 0)},
	} {
		become(t, c.p, c.q, c.first, c.second)
	}
}

// TestLinesTooNear has Lines of one text without a line between them that stays.
func TestLinesTooNear(t *testing.T) {
	for _, c := range [][2]api.Prim{
		{hunk(0, 1, 2), hunk(2, 1, 0)}, {hunk(0, 1, 2), hunk(1, 1, 1)}, {hunk(0, 1, 2), hunk(0, 1, 2)}, {hunk(0, 1, 0), hunk(0, 0, 1)},
		{hunk(5, 1, 1), hunk(3, 2, 7)}, {hunk(5, 1, 1), hunk(4, 2, 0)}, {hunk(5, 1, 1), hunk(5, 0, 1)}, {hunk(5, 0, 1), hunk(5, 1, 0)},
		{hunk(3, 9, 1), hunk(4, 1, 1)}, {hunk(4, 1, 1), hunk(3, 1, 9)},
		{hunk(0, 0, 9), hunk(8, 1, 0)}, {hunk(8, 1, 0), hunk(0, 9, 0)},
	} {
		cannot(t, c[0], c[1])
	}
}

// TestLinesFarOn has places of lines at MaxAt, and beyond it the other way about.
func TestLinesFarOn(t *testing.T) {
	most := api.MaxAt
	become(t, hunk(0, 3, 1), hunk(most-2, 1, 1), hunk(most, 1, 1), hunk(0, 3, 1))
	cannot(t, hunk(0, 3, 1), hunk(most-1, 1, 1))
	cannot(t, hunk(0, 3, 1), hunk(most, 1, 1))
	become(t, hunk(0, 1, 3), hunk(most, 1, 1), hunk(most-2, 1, 1), hunk(0, 1, 3))
	become(t, hunk(most-2, 1, 1), hunk(0, 1, 3), hunk(0, 1, 3), hunk(most, 1, 1))
	cannot(t, hunk(most-1, 1, 1), hunk(0, 1, 3))
	cannot(t, hunk(most, 0, 1), hunk(0, 0, 1))
	become(t, hunk(most, 1, 1), hunk(0, 3, 1), hunk(0, 3, 1), hunk(most-2, 1, 1))
	become(t, hunk(most-2, 1, 1), hunk(most, 1, 0), hunk(most, 1, 0), hunk(most-2, 1, 1))
	cannot(t, hunk(most-2, 2, 1), hunk(most, 1, 0))
	cannot(t, hunk(most, 1, 0), hunk(most, 1, 0))
	cannot(t, hunk(most-1, 0, 1), hunk(most, 1, 0))
}

func TestTwoChanges(t *testing.T) {
	for i, p := range changesOf("a") {
		for _, at := range []string{"b", "ab", "a-", "a/a", "a/b"} {
			for _, q := range changesOf(at) {
				stay(t, p, q)
			}
		}
		for j, q := range changesOf("a") {
			cannot(t, p, q)
			// With lines between them a Lines and another kind are as near as ever.
			if i > 0 || j > 0 {
				q.At *= 100
				cannot(t, p, q)
			}
		}
	}
	cannotEither(t, linesOf("a", 99, []string{"x"}, nil), token("a", "v", "w"))
	cannot(t, token("a", "x", "y"), token("a", "v", "w"))
	cannot(t, bytesOf("a", "x", "y"), bytesOf("a", "y", "z"))
	stay(t, linesOf("a", 1, []string{"x"}, []string{"y"}), linesOf("b", 1, []string{"x"}, nil))
}

func TestAdditionAndChange(t *testing.T) {
	for _, p := range additionsOf("a/b") {
		for _, at := range []string{"a", "a/b/c", "a/bc", "a/c", "b"} {
			for _, q := range changesOf(at) {
				stay(t, p, q)
			}
		}
		for _, q := range changesOf("a/b") {
			cannotEither(t, p, q)
		}
	}
}

func TestTwoAdditions(t *testing.T) {
	for _, p := range additionsOf("a/b") {
		for _, at := range []string{"a/bc", "a/b-", "a/b.c", "a/c", "b", "b/a"} {
			for _, q := range additionsOf(at) {
				stay(t, p, q)
			}
		}
		for _, at := range []string{"a", "a/b", "a/b/c", "a/b/c/d"} {
			for _, q := range additionsOf(at) {
				cannotEither(t, p, q)
			}
		}
	}
}

func TestMoveAndChange(t *testing.T) {
	move := moved("m/o", "n")
	for i, q := range changesOf("n") {
		become(t, move, q, changesOf("m/o")[i], move)
		become(t, move, changesOf("n/x/y")[i], changesOf("m/o/x/y")[i], move)
		for _, at := range []string{"m/o", "m/o/x", "m/o/n"} {
			cannot(t, move, changesOf(at)[i])
		}
		for _, at := range []string{"n", "n/x", "n/m/o"} {
			cannot(t, changesOf(at)[i], move)
		}
		for _, at := range []string{"m", "m/oo", "m/o-", "m/p", "no", "n.", "o", "n-/m", "o/n"} {
			stay(t, move, changesOf(at)[i])
		}
	}
	// Here To is deeper than Path, and a change of what either lies in is as it is.
	for _, q := range changesOf("m/o") {
		stay(t, moved("n", "m/o/p"), q)
		stay(t, moved("m/o/p", "n"), q)
		stay(t, moved("m/o/p", "m/o/q"), q)
	}
}

// TestMoveTooDeep has changes whose paths would have one part too many the other way about.
func TestMoveTooDeep(t *testing.T) {
	half := api.MaxDeep / 2
	down, up := moved("n", deep("d", half)), moved(deep("d", half), "n")
	for i, p := range changesOf("n/" + deep("x", half)) {
		become(t, p, down, down, changesOf(deep("d", half) + "/" + deep("x", half))[i])
		become(t, up, p, changesOf(deep("d", half) + "/" + deep("x", half))[i], up)
		far := changesOf("n/" + deep("x", half+1))[i]
		cannot(t, far, down)
		cannot(t, up, far)
		become(t, down, changesOf(deep("d", api.MaxDeep))[i], changesOf("n/" + deep("d", half))[i], down)
		farthest := changesOf("n/" + deep("x", api.MaxDeep-1))[i]
		become(t, farthest, moved("n", "o"), moved("n", "o"), changesOf("o/" + deep("x", api.MaxDeep-1))[i])
		cannot(t, farthest, moved("n", "o/o"))
	}
}

func TestMoveAndAddition(t *testing.T) {
	for _, move := range []api.Prim{moved("m/o", "n/p"), moved("n/p", "m/o")} {
		for i := range additionsOf("m") {
			for _, at := range []string{"m", "m/o", "m/o/x", "n", "n/p", "n/p/x", "n/p/x/y"} {
				cannotEither(t, move, additionsOf(at)[i])
			}
			for _, at := range []string{"m/oo", "m/o-", "m/p", "mo", "n/o", "n/p.x", "n-", "o"} {
				stay(t, move, additionsOf(at)[i])
			}
		}
	}
}

func TestTwoMoves(t *testing.T) {
	move := moved("m/o", "n/p")
	for _, near := range []string{"m", "m/o", "m/o/x", "n", "n/p", "n/p/x"} {
		cannotEither(t, move, moved(near, "a"))
		cannotEither(t, move, moved("a", near))
	}
	far := []string{"m/oo", "m/o-", "m/p", "mo", "n/o", "n/p.x", "n-", "o"}
	for _, at := range far {
		for _, to := range far {
			if at != to {
				stay(t, move, moved(at, to))
			}
		}
	}
	cannot(t, move, move)
	cannotEither(t, move, moved("n/p", "m/o"))
}

// wrong are patches that are not right, each for one reason; their paths are apart from those of fitting.
func wrong() []api.Prim {
	x := []string{"x"}
	l := []api.Prim{
		{}, plain(0, "w"), plain(-1, "w"), plain(api.Move+1, "w"), plain(1<<32+1, "w"), plain(-1<<63, "w"), plain(1<<63-1, "w"),
		linesOf("w", -1, x, nil), linesOf("w", api.MaxAt+1, x, nil), linesOf("w", 0, nil, nil), linesOf("w", 0, []string{}, []string{}), linesOf("w", 0, []string{"\n"}, x), linesOf("w", 0, x, []string{"x", "\n"}),
		linesOf("w", -1<<63, x, nil), linesOf("w", 1<<63-1, nil, x), linesOf("w", 1<<63-1, x, nil),
		{Kind: api.Lines, Path: "w", Old: x, From: "x"}, {Kind: api.Lines, Path: "w", Old: x, To: "x"},
		token("w", "x", "x"), token("w", "", "x"), token("w", "x", ""), token("w", "x", "+"), token("w", "x y", "x"),
		{Kind: api.Token, Path: "w", From: "x", To: "y", At: 1}, {Kind: api.Token, Path: "w", From: "x", To: "y", Old: x}, {Kind: api.Token, Path: "w", From: "x", To: "y", New: x},
		bytesOf("w", "x", "x"), bytesOf("w", "", ""), {Kind: api.Bytes, Path: "w", To: "y", At: 1}, {Kind: api.Bytes, Path: "w", To: "y", Old: x}, {Kind: api.Bytes, Path: "w", To: "y", New: x},
		moved("w", "w"), moved("w", "w/v"), moved("w/v", "w"), moved("w", ""), moved("w", "W"), moved("w", deep("v", api.MaxDeep+1)), moved("w", "v/"),
		{Kind: api.Move, Path: "w", To: "v", From: "x"}, {Kind: api.Move, Path: "w", To: "v", At: 1}, {Kind: api.Move, Path: "w", To: "v", Old: x}, {Kind: api.Move, Path: "w", To: "v", New: x},
	}
	for _, at := range []string{"", "/", "w/", "/w", "w//v", ".", "w/..", "W", "w v", "\xff", strings.Repeat("w", api.MaxPart+1), deep("w", api.MaxDeep+1)} {
		l = append(l, changesOf(at)...)
		l = append(l, additionsOf(at)...)
		l = append(l, moved(at, "v"))
	}
	for _, p := range additionsOf("w") {
		for _, f := range []func(p *api.Prim){func(p *api.Prim) { p.To = "v" }, func(p *api.Prim) { p.From = "v" }, func(p *api.Prim) { p.At = 1 }, func(p *api.Prim) { p.Old = x }, func(p *api.Prim) { p.New = x }} {
			q := p
			f(&q)
			l = append(l, q)
		}
	}
	return l
}

// fitting are right patches of all kinds that any right patch of other paths can be commuted with.
func fitting() []api.Prim {
	l := append(changesOf("a"), additionsOf("a")...)
	return append(l, moved("a", "b"))
}

func TestNotRight(t *testing.T) {
	for _, p := range fitting() {
		for _, q := range append(changesOf("w"), append(additionsOf("w"), moved("w", "v"))...) {
			stay(t, p, q)
		}
	}
	for _, w := range wrong() {
		if prim.Right(w) {
			t.Fatalf("right: %s", show(w))
		}
		for _, q := range fitting() {
			cannotEither(t, w, q)
		}
		for _, q := range wrong() {
			cannot(t, w, q)
		}
	}
}

// TestEmptyLists has right patches whose lists are empty, but not nil.
func TestEmptyLists(t *testing.T) {
	none := []string{}
	for _, p := range fitting() {
		if p.Kind != api.Lines {
			p.Old, p.New = none, none
		}
		stay(t, p, linesOf("c", 0, none, []string{""}))
		stay(t, p, linesOf("c", 0, []string{""}, none))
	}
}

func TestPastByHand(t *testing.T) {
	x, y := []string{"x"}, []string{"y", "y"}
	for _, c := range []struct {
		p      api.Prim
		l      []api.Prim
		ahead  []api.Prim
		behind api.Prim
	}{
		{linesOf("a", 0, nil, x), []api.Prim{linesOf("a", 4, x, x), moved("a", "b")}, []api.Prim{linesOf("a", 3, x, x), moved("a", "b")}, linesOf("b", 0, nil, x)},
		{linesOf("a", 9, x, nil), []api.Prim{linesOf("a", 4, x, y), moved("a", "b/c"), linesOf("b/c", 0, nil, y), plain(api.AddDir, "a"), moved("b", "d")},
			[]api.Prim{linesOf("a", 4, x, y), moved("a", "b/c"), linesOf("b/c", 0, nil, y), plain(api.AddDir, "a"), moved("b", "d")}, linesOf("d/c", 12, x, nil)},
		{moved("m", "n"), []api.Prim{token("n/x", "x", "y"), plain(api.AddText, "o"), linesOf("n", 1, x, y), bytesOf("p", "x", "y")}, []api.Prim{token("m/x", "x", "y"), plain(api.AddText, "o"), linesOf("m", 1, x, y), bytesOf("p", "x", "y")}, moved("m", "n")},
		{plain(api.RmText, "a"), []api.Prim{plain(api.RmText, "b"), moved("c", "d")}, []api.Prim{plain(api.RmText, "b"), moved("c", "d")}, plain(api.RmText, "a")},
	} {
		for n := range len(c.l) + 1 {
			ahead, behind, is := commute.Past(c.p, c.l[:n])
			if !is || !alikeRow(ahead, c.ahead[:n]) || n == len(c.l) && !alikePatch(behind, c.behind) {
				t.Errorf("Past(%s, %s) is %s, %s, %t", show(c.p), show(c.l[:n]), show(ahead), show(behind), is)
			}
		}
	}
}

// noPast asks that a patch cannot pass others.
func noPast(t *testing.T, p api.Prim, l []api.Prim) {
	t.Helper()
	ahead, behind, is := commute.Past(p, l)
	if is || len(ahead) > 0 || !zero(behind) {
		t.Errorf("Past(%s, %s) is %s, %s, %t", show(p), show(l), show(ahead), show(behind), is)
	}
}

// TestPastNothing: where no Commute is asked for, none is false, whatever the patch is.
func TestPastNothing(t *testing.T) {
	for _, l := range [][]api.Prim{nil, {}} {
		for _, p := range append(wrong(), fitting()...) {
			ahead, behind, is := commute.Past(p, l)
			if !is || len(ahead) > 0 || !alikePatch(behind, p) {
				t.Errorf("Past(%s, none) is %s, %s, %t", show(p), show(ahead), show(behind), is)
			}
		}
	}
}

// TestPastNot has one among those behind, at each place, that cannot be passed.
func TestPastNot(t *testing.T) {
	row := []api.Prim{plain(api.AddDir, "c"), token("d", "x", "y"), linesOf("e", 3, []string{"x"}, nil), moved("f", "g")}
	for _, p := range fitting() {
		if _, _, is := commute.Past(p, row); !is {
			t.Fatalf("%s cannot pass %s", show(p), show(row))
		}
		for at := range len(row) + 1 {
			for _, q := range append(wrong(), plain(api.AddText, "a")) {
				noPast(t, p, slices.Insert(slices.Clone(row), at, q))
			}
		}
	}
	for _, w := range wrong() {
		noPast(t, w, row)
		noPast(t, w, row[:1])
	}
}

// TestPastOnTheWay: what cannot be hangs on what the patch is by then.
func TestPastOnTheWay(t *testing.T) {
	noPast(t, hunk(0, 1, 1), []api.Prim{moved("a", "b"), token("b", "x", "y")})
	noPast(t, hunk(4, 1, 1), []api.Prim{hunk(0, 3, 1), hunk(2, 1, 1)})
	noPast(t, hunk(9, 1, 1), []api.Prim{hunk(0, 3, 1), hunk(6, 1, 1)})
	noPast(t, hunk(api.MaxAt, 1, 1), []api.Prim{hunk(0, 1, 0), hunk(0, 0, 2)})
	noPast(t, linesOf("a", 0, nil, []string{"x"}), []api.Prim{moved("a", "b"), moved("b", deep("c", api.MaxDeep)), plain(api.RmText, deep("c", api.MaxDeep))})
	if _, p, is := commute.Past(hunk(api.MaxAt, 1, 1), []api.Prim{hunk(0, 2, 0), hunk(0, 0, 2)}); !is || p.At != api.MaxAt {
		t.Errorf("it is %s, %t", show(p), is)
	}
}

// TestPastMany has more behind a patch than any patch may have changes.
func TestPastMany(t *testing.T) {
	var l, want []api.Prim
	for i := range 3000 {
		at := "t" + string(rune('0'+i%3))
		l, want = append(l, linesOf("a", i+5, nil, []string{"x"})), append(want, linesOf("a", i+3, nil, []string{"x"}))
		l, want = append(l, bytesOf(at, "x", "y")), append(want, bytesOf(at, "x", "y"))
	}
	p := hunk(0, 1, 3)
	ahead, behind, is := commute.Past(p, l)
	if !is || !alikeRow(ahead, want) || !alikePatch(behind, p) {
		t.Errorf("it is %s, %s, %t", show(ahead), show(behind), is)
	}
	noPast(t, p, append(l, hunk(3, 1, 1)))
}
