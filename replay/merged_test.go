package replay_test

import (
	"fmt"
	"math/rand"
	"slices"
	"testing"

	"counterpane/api"
	"counterpane/prim"
	"counterpane/replay"
)

// merged asks P15.3 of two rows that can be done on l, and tells whether they can be merged.
func merged(t *testing.T, l []api.Entry, a, b []api.Prim) bool {
	t.Helper()
	x, is := replay.Merge(a, b)
	y, other := replay.Merge(b, a)
	if is != other {
		t.Fatalf("Merge(%s, %s) is %t, and the other way about %t", show(a), show(b), is, other)
	}
	if !is {
		return false
	}
	one, e, at := prim.All(l, slices.Concat(a, x))
	two, f, bt := prim.All(l, slices.Concat(b, y))
	if e != api.OK || f != api.OK || !alikeTree(one, two) {
		t.Fatalf("on %s: %s and %s make %s, %d at %d; the other way about, %s and %s, %s, %d at %d", show(l), show(a), show(x), show(one), e, at, show(b), show(y), show(two), f, bt)
	}
	return true
}

// TestMergedByHand has all rows of up to two of those that can be done on a tree.
func TestMergedByHand(t *testing.T) {
	l := startTree()
	some := row(
		hunk("t", 0, "1", "v w"), hunk("t", 2, "3", ""), hunk("t", 4, "", "x"), hunk("t", 9, "", "10"), hunk("t", 8, "9", ""), hunk("u", 4, "5", "6"), token("t", "5", "50"),
		moved("t", "u"), moved("d", "e/d"), moved("e", "f"), moved("t", "e/t"), token("d/u", "x", "z"), hunk("d/u", 1, "y", ""), hunk("e/d/u", 0, "x", ""),
		plain(api.AddDir, "t"), plain(api.AddDir, "d/v"), plain(api.AddText, "e/t"), plain(api.RmDir, "e"), plain(api.AddData, "c"), bytesOf("b", "x", "y"), bytesOf("b", "x", ""), plain(api.RmData, "b"))
	var rows [][]api.Prim
	for n := range 3 {
		eachRow(some, n, func(r []api.Prim) {
			if _, e, _ := prim.All(l, r); e == api.OK {
				rows = append(rows, r)
			}
		})
	}
	can := map[bool]int{}
	for _, a := range rows {
		for _, b := range rows {
			can[merged(t, l, a, b)]++
		}
	}
	if can[true] < 10000 || can[false] < 10000 {
		t.Errorf("only these: %v", can)
	}
}

// TestMergedRows has seeded rows on seeded trees.
func TestMergedRows(t *testing.T) {
	r := rand.New(rand.NewSource(15))
	can := map[[2]int]int{}
	for range 3000 {
		_, l := ground(r)
		a, _ := anyBody(r, l, r.Intn(5))
		b, _ := anyBody(r, l, r.Intn(5))
		if merged(t, l, a, b) {
			can[[2]int{len(a), len(b)}]++
		}
	}
	for n := range 5 {
		for m := range 5 {
			if can[[2]int{n, m}] < 10 {
				t.Errorf("only %d rows of %d were merged with rows of %d", can[[2]int{n, m}], m, n)
			}
		}
	}
}

// TestMergedWithNoRoom has two rows each of which takes the last room there is: O1 merges them, for it asks no tree, and O3 leaves the second.
func TestMergedWithNoRoom(t *testing.T) {
	adds := func(p string, n int) []api.Prim {
		l := row(plain(api.AddDir, p))
		for i := range n - 1 {
			l = append(l, plain(api.AddDir, fmt.Sprintf("%s/%03d", p, i)))
		}
		return l
	}
	l := []api.Patch{patch("a", adds("a", 256)...), patch("b", adds("b", 256)...), patch("c", adds("c", 256)...), patch("d", adds("d", 255)...), patch("e", plain(api.AddText, "e")), patch("f", plain(api.AddText, "f")), patch("g f"), patch("h a", plain(api.RmDir, "a/000"), plain(api.AddText, "h"))}
	s, w := ask(t, l)
	if fmt.Sprint(s.Done, s.Left) != "[a b c d e h] [f g]" || len(s.Tree) != api.MaxEntries || w.tree != 1 {
		t.Errorf("done %v, left %v, %+v, and %d things", s.Done, s.Left, w, len(s.Tree))
	}
	merges(t, l[4].Body, l[5].Body, l[5].Body)
	if s, _ := ask(t, l[:5]); len(s.Tree) != api.MaxEntries {
		t.Errorf("%d things", len(s.Tree))
	}
}

// TestRowsOfPatches asks P15.4: patches each of which stands on all ahead, by all Deps or by the one ahead, make what their Bodies make.
func TestRowsOfPatches(t *testing.T) {
	r := rand.New(rand.NewSource(15))
	for n := range 120 {
		body, now := ground(r)
		bodies := [][]api.Prim{body}
		for range n % 40 {
			body, now = anyBody(r, now, r.Intn(4))
			bodies = append(bodies, body)
		}
		of := func(i int) []api.Prim { return bodies[i] }
		for _, all := range []bool{true, false} {
			l := chain(len(bodies), all, of)
			s, e := replay.Replay(l)
			if e != api.OK || len(s.Left) != 0 || !alikeTree(s.Tree, now) || !slices.EqualFunc(s.Forms, bodies, alikeRow) {
				t.Fatalf("Replay(%s) is %s, %d; want %s, and %s", show(l), show(s), e, show(bodies), show(now))
			}
			// One that cannot be done is left, and all behind it.
			cut := r.Intn(len(l))
			l[cut].Body = append(slices.Clone(l[cut].Body), plain(api.RmDir, "none"))
			s, e = replay.Replay(l)
			if e != api.OK || len(s.Done) != cut || len(s.Left) != len(l)-cut || !slices.EqualFunc(s.Forms, bodies[:cut], alikeRow) {
				t.Fatalf("Replay(%s) is %s, %d", show(l), show(s), e)
			}
		}
	}
}
