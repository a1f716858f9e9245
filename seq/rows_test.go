package seq_test

import (
	"math/rand"
	"slices"
	"testing"

	"counterpane/api"
	"counterpane/invert"
	"counterpane/prim"
)

func pick[T any](r *rand.Rand, l ...T) T { return l[r.Intn(len(l))] }

// words are what lines, tokens and data are made of.
func words() []string { return []string{"x", "y", "z", "x+y", ""} }

// anyPatch is one that may well be done on l.
func anyPatch(r *rand.Rand, l []api.Entry) api.Prim {
	x := api.Entry{Path: "a", Kind: api.KindDir}
	if len(l) > 0 {
		x = pick(r, l...)
	}
	switch n := r.Intn(12); {
	case n < 2:
		return plain(pick(r, api.AddDir, api.AddText, api.AddData), anyPlace(r, l))
	case n == 3 || n > 4 && x.Kind == api.KindDir:
		return moved(x.Path, anyPlace(r, l))
	case n == 4:
		return plain(2*x.Kind, x.Path)
	case x.Kind == api.KindData:
		return bytesOf(x.Path, x.Data, pick(r, words()...))
	case n < 11:
		return anyLines(r, x)
	}
	return token(x.Path, pick(r, words()...), pick(r, words()...))
}

// anyPlace is a path at which something may come to lie.
func anyPlace(r *rand.Rand, l []api.Entry) string {
	in := pick(r, "a", "b", "a.", "c")
	if len(l) > 0 && r.Intn(3) > 0 {
		return pick(r, l...).Path + "/" + in
	}
	return in
}

// anyLines is a Lines that fits a text, of a few lines, so that others have room beside it.
func anyLines(r *rand.Rand, x api.Entry) api.Prim {
	at := r.Intn(len(x.Lines) + 1)
	to := at + r.Intn(min(2, len(x.Lines)-at)+1)
	return linesOf(x.Path, at, slices.Clone(x.Lines[at:to]), someLines(r))
}

func someLines(r *rand.Rand) []string {
	var l []string
	for range r.Intn(4) {
		l = append(l, pick(r, words()...))
	}
	return l
}

// anyBehind is one that may well be one with p, if it can be done on l.
func anyBehind(r *rand.Rand, l []api.Entry, p api.Prim) api.Prim {
	switch {
	case p.Kind == api.Bytes && r.Intn(2) == 0:
		return bytesOf(p.Path, p.To, pick(r, words()...))
	case p.Kind == api.Lines && r.Intn(2) == 0:
		return linesOf(p.Path, p.At, p.New, someLines(r))
	case p.Kind == api.Move && r.Intn(2) == 0:
		return moved(p.To, anyPlace(r, l))
	}
	return invert.Invert(p)
}

// start is a tree with texts that are long enough for several Lines.
func start(r *rand.Rand) []api.Entry {
	lines := func() []string {
		var l []string
		for range 5 + r.Intn(15) {
			l = append(l, pick(r, "x", "y", "x y", ""))
		}
		return l
	}
	return []api.Entry{dir("a"), text("a/b", lines()...), dir("b"), dir("b/a"), text("b/a/a", lines()...), text("c", lines()...), data("d", "x")}
}

// anyRow is a row of patches that can be done, and the trees ahead of each, and behind all; of ten patches so many may well be one with the one ahead.
func anyRow(r *rand.Rand, ones int) ([]api.Prim, [][]api.Entry) {
	var l []api.Prim
	trees := [][]api.Entry{start(r)}
	for range 40 {
		now := trees[len(l)]
		p := anyPatch(r, now)
		if len(l) > 0 && r.Intn(10) < ones {
			p = anyBehind(r, now, l[len(l)-1])
		}
		if next, e := prim.Apply(now, p); e == api.OK {
			l, trees = append(l, p), append(trees, next)
		}
	}
	return l, trees
}

// TestRowsSwapped has pieces of rows, of all lengths up to five, swapped and made last.
func TestRowsSwapped(t *testing.T) {
	r := rand.New(rand.NewSource(11))
	swaps, lasts := map[[2]int]int{}, map[int]int{}
	for range 150 {
		l, trees := anyRow(r, 1)
		for from := range l {
			for to := from + 1; to <= min(len(l), from+10); to++ {
				if madeLast(t, trees[from], l[from:to], r.Intn(to-from), trees[to]) {
					lasts[to-from]++
				}
				for cut := max(from, to-5); cut <= min(to, from+5); cut++ {
					if swapped(t, trees[from], l[from:cut], l[cut:to], trees[to]) {
						swaps[[2]int{cut - from, to - cut}]++
					}
				}
			}
		}
	}
	for a := range 6 {
		for b := range 6 {
			if a+b > 0 && swaps[[2]int{a, b}] < 20 {
				t.Errorf("only %d rows of %d were swapped with rows of %d", swaps[[2]int{a, b}], a, b)
			}
		}
	}
	for n := 1; n <= 10; n++ {
		if lasts[n] < 300 {
			t.Errorf("of rows of %d only %d had one made last", n, lasts[n])
		}
	}
}

// TestRowsJoined has rows, and pieces of them, joined.
func TestRowsJoined(t *testing.T) {
	r := rand.New(rand.NewSource(11))
	less := map[int]int{}
	for range 1500 {
		l, trees := anyRow(r, 7)
		less[min(joined(t, trees[0], l, trees[len(l)]), 20)]++
		from := r.Intn(len(l))
		to := from + r.Intn(len(l)-from+1)
		joined(t, trees[from], l[from:to], trees[to])
		joined(t, trees[0], slices.Concat(l, invert.All(l[from:])), trees[from])
	}
	if less[20] < 50 {
		t.Errorf("only %d rows were much less", less[20])
	}
}
