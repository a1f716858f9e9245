package seq_test

import (
	"fmt"
	"math"
	"slices"
	"strings"
	"testing"

	"counterpane/api"
	"counterpane/prim"
	"counterpane/seq"
)

// plain is a patch of a kind that names nothing but a path.
func plain(kind int, p string) api.Prim { return api.Prim{Kind: kind, Path: p} }

func linesOf(p string, at int, old, now []string) api.Prim {
	return api.Prim{Kind: api.Lines, Path: p, At: at, Old: old, New: now}
}

// hunk is a Lines of a, of lines that are words.
func hunk(at int, old, now string) api.Prim {
	return linesOf("a", at, strings.Fields(old), strings.Fields(now))
}

func token(p, from, to string) api.Prim {
	return api.Prim{Kind: api.Token, Path: p, From: from, To: to}
}

func bytesOf(p, from, to string) api.Prim {
	return api.Prim{Kind: api.Bytes, Path: p, From: from, To: to}
}

func moved(p, to string) api.Prim { return api.Prim{Kind: api.Move, Path: p, To: to} }

func row(l ...api.Prim) []api.Prim { return l }

// deep is a path of n parts, all the same one.
func deep(part string, n int) string { return strings.Repeat(part+"/", n-1) + part }

func alikePatch(p, q api.Prim) bool {
	return p.Kind == q.Kind && p.Path == q.Path && p.To == q.To && p.From == q.From && p.At == q.At && slices.Equal(p.Old, q.Old) && slices.Equal(p.New, q.New)
}

func alikeRow(l, m []api.Prim) bool { return slices.EqualFunc(l, m, alikePatch) }

// show tells something, at least its beginning.
func show(what any) string { return fmt.Sprintf("%.300s", fmt.Sprintf("%+v", what)) }

// become asks what two rows are the other way about, and that they are swapped back (P11.4).
func become(t *testing.T, a, b, ahead, behind []api.Prim) {
	t.Helper()
	for _, c := range [][4][]api.Prim{{a, b, ahead, behind}, {ahead, behind, a, b}} {
		x, y, is := seq.Swap(c[0], c[1])
		if !is || !alikeRow(x, c[2]) || !alikeRow(y, c[3]) {
			t.Errorf("Swap(%s, %s) is %s, %s, %t; want %s, %s", show(c[0]), show(c[1]), show(x), show(y), is, show(c[2]), show(c[3]))
		}
	}
}

// noSwap asks that two rows cannot be swapped.
func noSwap(t *testing.T, a, b []api.Prim) {
	t.Helper()
	x, y, is := seq.Swap(a, b)
	if is || len(x) > 0 || len(y) > 0 {
		t.Errorf("Swap(%s, %s) is %s, %s, %t", show(a), show(b), show(x), show(y), is)
	}
}

// last asks what a row is with the patch at a place behind all.
func last(t *testing.T, l []api.Prim, at int, want []api.Prim) {
	t.Helper()
	got, is := seq.Last(l, at)
	if !is || !alikeRow(got, want) {
		t.Errorf("Last(%s, %d) is %s, %t; want %s", show(l), at, show(got), is, show(want))
	}
}

// noLast asks that there is nothing at a place that could be behind all.
func noLast(t *testing.T, l []api.Prim, at int) {
	t.Helper()
	if got, is := seq.Last(l, at); is || len(got) > 0 {
		t.Errorf("Last(%s, %d) is %s, %t", show(l), at, show(got), is)
	}
}

// coalesce asks what a row is, and that this is as it was once more (P11.3).
func coalesce(t *testing.T, l, want []api.Prim) {
	t.Helper()
	for _, m := range [][]api.Prim{l, want} {
		if got := seq.Coalesce(m); !alikeRow(got, want) {
			t.Errorf("Coalesce(%s) is %s; want %s", show(m), show(got), show(want))
		}
	}
}

// stay asks that a row has no neighbours that are one.
func stay(t *testing.T, l ...api.Prim) {
	t.Helper()
	coalesce(t, l, l)
}

func TestSwapByHand(t *testing.T) {
	become(t, row(plain(api.AddDir, "c"), plain(api.AddDir, "d")), row(plain(api.AddText, "e"), bytesOf("f", "", "x")),
		row(plain(api.AddText, "e"), bytesOf("f", "", "x")), row(plain(api.AddDir, "c"), plain(api.AddDir, "d")))
	become(t, row(hunk(0, "x", "y z")), row(hunk(5, "v", "")), row(hunk(4, "v", "")), row(hunk(0, "x", "y z")))
	// What passes first is what b is by then: both of a are ahead of each of b.
	become(t, row(hunk(0, "", "x"), hunk(2, "", "y")), row(hunk(9, "v", "w"), hunk(11, "v", "")),
		row(hunk(7, "v", "w"), hunk(9, "v", "")), row(hunk(0, "", "x"), hunk(2, "", "y")))
	become(t, row(hunk(8, "x", "y"), hunk(10, "", "z z")), row(hunk(0, "v", ""), hunk(2, "", "w w w")),
		row(hunk(0, "v", ""), hunk(2, "", "w w w")), row(hunk(10, "x", "y"), hunk(12, "", "z z")))
	become(t, row(moved("m", "n"), moved("k", "l")), row(token("n/x", "x", "y"), bytesOf("l", "", "x"), plain(api.AddDir, "o")),
		row(token("m/x", "x", "y"), bytesOf("k", "", "x"), plain(api.AddDir, "o")), row(moved("m", "n"), moved("k", "l")))
	become(t, row(hunk(3, "x", "y"), token("m/x", "x", "y")), row(moved("a", "b"), moved("m", "n"), linesOf("b", 0, nil, []string{"z"})),
		row(moved("a", "b"), moved("m", "n"), linesOf("b", 0, nil, []string{"z"})), row(linesOf("b", 4, []string{"x"}, []string{"y"}), token("n/x", "x", "y")))
	// Those of one row need not be such as could pass one another.
	become(t, row(plain(api.AddDir, "m"), plain(api.AddDir, "m/n"), moved("m", "o")), row(plain(api.AddText, "p"), bytesOf("p/q", "x", "")),
		row(plain(api.AddText, "p"), bytesOf("p/q", "x", "")), row(plain(api.AddDir, "m"), plain(api.AddDir, "m/n"), moved("m", "o")))
}

// TestSwapNothing: where nothing is to be passed, or nothing passes, nothing is asked of any patch.
func TestSwapNothing(t *testing.T) {
	for _, none := range [][]api.Prim{nil, {}} {
		become(t, none, none, none, none)
		for _, p := range append(wrong(), rightOnes()...) {
			become(t, none, row(p, p), row(p, p), none)
		}
	}
}

func TestSwapNot(t *testing.T) {
	noSwap(t, row(plain(api.AddDir, "a")), row(plain(api.AddDir, "a/b")))
	a := row(plain(api.AddDir, "c"), token("d", "x", "y"), hunk(3, "x", ""), moved("f", "g"))
	b := row(plain(api.RmText, "h"), token("i", "x", "y"), hunk(0, "", "x"), moved("j", "k"))
	if _, _, is := seq.Swap(a, b); !is {
		t.Fatalf("Swap(%s, %s) cannot be", show(a), show(b))
	}
	// One of them, at each place of each row, cannot pass.
	for at := range len(a) + 1 {
		for _, w := range wrong() {
			noSwap(t, slices.Insert(slices.Clone(a), at, w), b)
			noSwap(t, a, slices.Insert(slices.Clone(b), at, w))
		}
		noSwap(t, slices.Insert(slices.Clone(a), at, plain(api.AddData, "h")), b)
		noSwap(t, a, slices.Insert(slices.Clone(b), at, plain(api.RmDir, "c")))
	}
	// It hangs on what they are by then.
	noSwap(t, row(hunk(9, "x", "y"), hunk(0, "v", "w")), row(moved("a", "b"), linesOf("b", 9, []string{"y"}, nil)))
	noSwap(t, row(hunk(0, "", "x"), hunk(9, "", "x")), row(hunk(api.MaxAt, "v", "w"), hunk(0, "", "z z z")))
	noSwap(t, row(hunk(4, "", "x"), hunk(0, "v v", "")), row(hunk(3, "x", "y")))
	noSwap(t, row(moved(deep("d", api.MaxDeep/2), "n")), row(token("n/"+deep("x", api.MaxDeep/2+1), "x", "y")))
}

// TestSwapFarOn has places of lines that come to MaxAt, and beyond it.
func TestSwapFarOn(t *testing.T) {
	most := api.MaxAt
	become(t, row(hunk(0, "x", ""), hunk(1, "x", "")), row(hunk(most-2, "v", "w"), hunk(most-4, "v", "")),
		row(hunk(most, "v", "w"), hunk(most-2, "v", "")), row(hunk(0, "x", ""), hunk(1, "x", "")))
	noSwap(t, row(hunk(0, "x", ""), hunk(1, "x", "")), row(hunk(most-1, "v", "w")))
	become(t, row(hunk(0, "x", ""), hunk(1, "", "x")), row(hunk(most, "v", "w")), row(hunk(most, "v", "w")), row(hunk(0, "x", ""), hunk(1, "", "x")))
	noSwap(t, row(hunk(0, "", "x"), hunk(2, "x", "")), row(hunk(most, "v", "w")))
}

func TestLastByHand(t *testing.T) {
	add := func(p string) api.Prim { return plain(api.AddDir, p) }
	last(t, row(add("a"), add("b"), add("c")), 0, row(add("b"), add("c"), add("a")))
	last(t, row(add("a"), add("b"), add("c")), 1, row(add("a"), add("c"), add("b")))
	last(t, row(add("a"), add("b"), add("c")), 2, row(add("a"), add("b"), add("c")))
	last(t, row(add("a"), add("a/b"), add("c")), 1, row(add("a"), add("c"), add("a/b")))
	noLast(t, row(add("a"), add("a/b"), add("c")), 0)
	noLast(t, row(add("a"), add("c"), add("a/b")), 0)
	l := row(hunk(0, "", "x"), hunk(9, "v", "w"), hunk(5, "y", "z z"), moved("a", "b"), linesOf("b", 0, []string{"x"}, nil))
	noLast(t, l, 0)
	last(t, l, 3, row(l[0], l[1], l[2], hunk(0, "x", ""), moved("a", "b")))
	last(t, l[:4], 0, row(hunk(8, "v", "w"), hunk(4, "y", "z z"), moved("a", "b"), linesOf("b", 0, nil, []string{"x"})))
	last(t, l, 1, row(l[0], l[2], l[3], l[4], linesOf("b", 9, []string{"v"}, []string{"w"})))
	last(t, l, 2, row(l[0], l[1], l[3], l[4], linesOf("b", 4, []string{"y"}, []string{"z", "z"})))
	last(t, l, 4, l)
	last(t, row(moved("m", "n"), token("n/x", "x", "y"), add("o")), 0, row(token("m/x", "x", "y"), add("o"), moved("m", "n")))
}

func TestLastOfNone(t *testing.T) {
	l := row(plain(api.AddDir, "a"), plain(api.AddDir, "b"), plain(api.AddDir, "c"))
	// Room behind a row has no place in it.
	for _, at := range []int{-1, -2, -3, 3, 4, 1 << 31, 1 << 32, -1 << 32, math.MaxInt, math.MinInt} {
		noLast(t, l, at)
		noLast(t, append(l, l...)[:3], at)
		noLast(t, nil, at)
		noLast(t, []api.Prim{}, at)
	}
	noLast(t, nil, 0)
	noLast(t, []api.Prim{}, 0)
	noLast(t, l[:1], 1)
}

// TestLastWrong has patches that are not right: one can neither pass nor be passed, but what stands ahead is not asked.
func TestLastWrong(t *testing.T) {
	p, q := plain(api.AddDir, "a"), token("b", "x", "y")
	for _, w := range wrong() {
		last(t, row(w), 0, row(w))
		last(t, row(p, q, w), 2, row(p, q, w))
		last(t, row(w, p, q), 1, row(w, q, p))
		noLast(t, row(w, p, q), 0)
		noLast(t, row(p, w, q), 0)
		noLast(t, row(p, q, w), 0)
		noLast(t, row(p, q, w), 1)
	}
}

// wrong are patches that are not right, each for one reason.
func wrong() []api.Prim {
	x := []string{"x"}
	l := []api.Prim{
		{}, plain(0, "w"), plain(-1, "w"), plain(api.Move+1, "w"), plain(1<<32+1, "w"), plain(math.MinInt, "w"), plain(math.MaxInt, "w"),
		linesOf("w", -1, x, nil), linesOf("w", api.MaxAt+1, x, nil), linesOf("w", 0, nil, nil), linesOf("w", 0, []string{}, []string{}), linesOf("w", 0, []string{"\n"}, x), linesOf("w", 0, x, []string{"x", "\n"}),
		linesOf("w", math.MinInt, x, nil), linesOf("w", math.MaxInt, nil, x), {Kind: api.Lines, Path: "w", Old: x, From: "x"}, {Kind: api.Lines, Path: "w", Old: x, To: "x"},
		token("w", "x", "x"), token("w", "", "x"), token("w", "x", ""), token("w", "x", "+"), token("w", "x y", "x"), {Kind: api.Token, Path: "w", From: "x", To: "y", At: 1},
		bytesOf("w", "x", "x"), bytesOf("w", "", ""), {Kind: api.Bytes, Path: "w", To: "y", At: 1}, {Kind: api.Bytes, Path: "w", To: "y", Old: x}, {Kind: api.Bytes, Path: "w", To: "y", New: x},
		moved("w", "w"), moved("w", "w/v"), moved("w/v", "w"), moved("w", ""), moved("w", "W"), moved("w", deep("v", api.MaxDeep+1)),
		{Kind: api.Move, Path: "w", To: "v", From: "x"}, {Kind: api.Move, Path: "w", To: "v", At: 1}, {Kind: api.Move, Path: "w", To: "v", New: x},
		{Kind: api.AddDir, Path: "w", To: "v"}, {Kind: api.RmDir, Path: "w", From: "v"}, {Kind: api.AddText, Path: "w", At: 1}, {Kind: api.RmText, Path: "w", Old: x}, {Kind: api.AddData, Path: "w", New: x}, {Kind: api.RmData, Path: "w", At: -1},
	}
	for _, at := range []string{"", "/", "w/", "/w", "w//v", ".", "w/..", "W", "\xff", strings.Repeat("w", api.MaxPart+1), deep("w", api.MaxDeep+1)} {
		l = append(l, linesOf(at, 0, x, nil), token(at, "x", "y"), bytesOf(at, "x", "y"), moved(at, "v"), plain(api.AddDir, at), plain(api.RmText, at), plain(api.AddData, at))
	}
	return l
}

// rightOnes are right patches of all kinds, at the edges too.
func rightOnes() []api.Prim {
	x, far := []string{"x"}, deep(strings.Repeat("p", api.MaxPart), api.MaxDeep)
	l := []api.Prim{
		hunk(0, "x", "y"), hunk(3, "", "x y"), hunk(api.MaxAt, "x", ""), linesOf(far, 1, []string{""}, []string{"\x00\xff", "é"}),
		token("a", "x", "y"), token(far, "A", "_0"), bytesOf("a", "", "x"), bytesOf(far, "x\n", "\x00"), bytesOf("a", "x", ""),
		moved("a", "b"), moved("a", far), moved(far, "a"), moved("a/b", "a/c"), {Kind: api.Move, Path: "a", To: "ab", Old: x[:0], New: x[:0]},
	}
	for kind := api.AddDir; kind <= api.RmData; kind++ {
		l = append(l, plain(kind, "a"), plain(kind, far), api.Prim{Kind: kind, Path: "a/b", Old: x[:0], New: x[:0]})
	}
	return l
}

// TestLists holds the two lists above against what is right.
func TestLists(t *testing.T) {
	for _, p := range wrong() {
		if prim.Right(p) {
			t.Errorf("right: %s", show(p))
		}
	}
	for _, p := range rightOnes() {
		if !prim.Right(p) {
			t.Errorf("not right: %s", show(p))
		}
	}
}
