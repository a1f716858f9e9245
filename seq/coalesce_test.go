package seq_test

import (
	"runtime/debug"
	"slices"
	"strconv"
	"testing"

	"counterpane/api"
	"counterpane/invert"
	"counterpane/seq"
)

func TestUndoneIsNothing(t *testing.T) {
	add, rm := plain(api.AddDir, "a"), plain(api.RmDir, "a")
	coalesce(t, row(add, plain(api.AddDir, "b"), plain(api.RmDir, "b"), rm), nil)
	coalesce(t, row(add, rm, add), row(add))
	coalesce(t, row(rm, add, rm), row(rm))
	coalesce(t, row(add, rm, rm), row(rm))
	stay(t, add, add, add)
	stay(t, add, plain(api.RmDir, "b"))
	stay(t, add, plain(api.RmText, "a"), plain(api.AddData, "a"))
	for _, p := range rightOnes() {
		q := invert.Invert(p)
		coalesce(t, row(p, q), nil)
		coalesce(t, row(p, q, p, q, p), row(p))
		coalesce(t, row(plain(api.RmText, "z"), p, q, plain(api.AddText, "z")), nil)
		coalesce(t, row(p, plain(api.AddText, "z"), q), row(p, plain(api.AddText, "z"), q))
	}
}

// TestAnEmptyListIsOne: what undoes a patch does so whether an empty list is nil or not.
func TestAnEmptyListIsOne(t *testing.T) {
	none := []string{}
	coalesce(t, row(linesOf("a", 0, nil, []string{"x"}), linesOf("a", 0, []string{"x"}, none)), nil)
	coalesce(t, row(linesOf("a", 0, none, []string{"x"}), linesOf("a", 0, []string{"x"}, nil)), nil)
	coalesce(t, row(linesOf("a", 0, []string{"x"}, none), linesOf("a", 0, nil, []string{"y"})), row(hunk(0, "x", "y")))
	coalesce(t, row(linesOf("a", 0, []string{"x"}, nil), linesOf("a", 0, none, []string{"y"})), row(hunk(0, "x", "y")))
	coalesce(t, row(api.Prim{Kind: api.AddDir, Path: "a", Old: none}, api.Prim{Kind: api.RmDir, Path: "a", New: none}), nil)
	coalesce(t, row(moved("a", "b"), api.Prim{Kind: api.Move, Path: "b", To: "a", Old: none, New: none}), nil)
}

func TestBytesAreOne(t *testing.T) {
	coalesce(t, row(bytesOf("a", "", "x"), bytesOf("a", "x", "y"), plain(api.AddDir, "b")), row(bytesOf("a", "", "y"), plain(api.AddDir, "b")))
	coalesce(t, row(bytesOf("a", "x", "y"), bytesOf("a", "y", "z"), bytesOf("a", "z", "")), row(bytesOf("a", "x", "")))
	coalesce(t, row(bytesOf("a", "x", "y"), bytesOf("a", "y", "z"), bytesOf("a", "z", "x")), nil)
	coalesce(t, row(bytesOf("a", "x", "y"), bytesOf("a", "y", "z"), bytesOf("a", "z", "y")), row(bytesOf("a", "x", "y")))
	coalesce(t, row(bytesOf("a", "x\n", "\x00"), bytesOf("a", "\x00", "\xff")), row(bytesOf("a", "x\n", "\xff")))
	stay(t, bytesOf("a", "", "x"), plain(api.AddDir, "b"), bytesOf("a", "x", "y"))
	stay(t, bytesOf("a", "", "x"), bytesOf("b", "x", "y"), bytesOf("a", "x", "y"))
	stay(t, bytesOf("a", "x", "y"), bytesOf("a", "x", "y"))
	stay(t, bytesOf("a", "x", "y"), bytesOf("a", "yy", "z"))
	stay(t, bytesOf("a", "y", "z"), bytesOf("a", "x", "y"))
	stay(t, bytesOf("a", "x", "y"), bytesOf("a/b", "y", "z"))
}

func TestLinesAreOne(t *testing.T) {
	coalesce(t, row(hunk(2, "", "x"), hunk(2, "x", "y")), row(hunk(2, "", "y")))
	coalesce(t, row(hunk(2, "x", "y z"), hunk(2, "y z", "v")), row(hunk(2, "x", "v")))
	coalesce(t, row(hunk(0, "x", ""), hunk(0, "", "y")), row(hunk(0, "x", "y")))
	coalesce(t, row(hunk(0, "x", "y"), hunk(0, "y", "z"), hunk(0, "z", "x")), nil)
	coalesce(t, row(hunk(0, "", "y"), hunk(0, "y", "z"), hunk(0, "z", "")), nil)
	coalesce(t, row(hunk(api.MaxAt, "x", "y"), hunk(api.MaxAt, "y", "z")), row(hunk(api.MaxAt, "x", "z")))
	coalesce(t, row(linesOf("a", 1, []string{"x y"}, []string{"", "+"}), linesOf("a", 1, []string{"", "+"}, []string{"\xff"})), row(linesOf("a", 1, []string{"x y"}, []string{"\xff"})))
	// Lines that become themselves are right, and undo themselves.
	coalesce(t, row(hunk(1, "x", "x"), hunk(1, "x", "x")), nil)
	coalesce(t, row(hunk(1, "x", "x"), hunk(1, "x", "x"), hunk(1, "x", "x")), row(hunk(1, "x", "x")))
	coalesce(t, row(hunk(1, "x", "x"), hunk(1, "x", "y")), row(hunk(1, "x", "y")))
	coalesce(t, row(hunk(1, "x", "y"), hunk(1, "y", "y")), row(hunk(1, "x", "y")))
	// So what undoes a row may leave something that changes nothing.
	coalesce(t, row(hunk(1, "x", "x"), hunk(1, "x", "y"), hunk(1, "y", "x"), hunk(1, "x", "x")), row(hunk(1, "x", "x")))
	stay(t, hunk(2, "x", "y"), hunk(3, "y", "z"))
	stay(t, hunk(2, "x", "y"), hunk(1, "y", "z"))
	stay(t, hunk(2, "x", "y"), linesOf("b", 2, []string{"y"}, []string{"z"}))
	stay(t, hunk(2, "x", "y y"), hunk(2, "y", "z"))
	stay(t, hunk(2, "x", "y"), hunk(2, "y y", "z"))
	stay(t, hunk(2, "x", "y z"), hunk(2, "z y", "x"))
	stay(t, hunk(2, "x", "y z"), linesOf("a", 2, []string{"y z"}, []string{"x"}))
	stay(t, hunk(2, "y", "z"), hunk(2, "x", "y"))
	stay(t, hunk(0, "", "y"), hunk(0, "", "z"))
	stay(t, hunk(0, "y", ""), hunk(0, "z", ""))
	stay(t, hunk(2, "x", "y"), plain(api.AddDir, "b"), hunk(2, "y", "z"))
}

func TestMovesAreOne(t *testing.T) {
	coalesce(t, row(moved("a", "b"), moved("b", "c")), row(moved("a", "c")))
	coalesce(t, row(moved("a/b", "c"), moved("c", "a/d"), moved("a/d", "ab")), row(moved("a/b", "ab")))
	coalesce(t, row(moved("a", "b"), moved("b", "c"), moved("c", "a")), nil)
	coalesce(t, row(moved("a", "b"), moved("b", "ab")), row(moved("a", "ab")))
	stay(t, moved("a", "b"), moved("b", "a/c"))
	stay(t, moved("a/c", "b"), moved("b", "a"))
	stay(t, moved("a", "b"), moved("b/c", "c"))
	stay(t, moved("a", "b/c"), moved("b", "c"))
	stay(t, moved("a", "b"), moved("c", "d"))
	stay(t, moved("b", "c"), moved("a", "b"))
	stay(t, moved("a", "b"), moved("a", "b"))
	stay(t, moved("a", "b"), plain(api.AddDir, "d"), moved("b", "c"))
	// What a later Move makes of the last ones may be one with what they were not.
	coalesce(t, row(moved("a", "b"), moved("b", "a/c"), moved("a/c", "d")), row(moved("a", "d")))
	coalesce(t, row(moved("a/c", "b"), moved("b", "a"), moved("a", "d")), row(moved("a/c", "d")))
	coalesce(t, row(plain(api.AddText, "z"), moved("a", "b"), moved("b", "a/c"), moved("a/c", "d"), moved("d", "a"), plain(api.RmText, "z")), nil)
}

// TestOthersAreNot has neighbours that look like those that are one.
func TestOthersAreNot(t *testing.T) {
	stay(t, token("a", "x", "y"), token("a", "y", "z"), token("a", "z", "x"))
	stay(t, token("a", "x", "y"), token("b", "y", "x"))
	stay(t, token("a", "x", "y"), bytesOf("a", "y", "x"), token("a", "y", "z"))
	stay(t, bytesOf("a", "x", "b"), moved("b", "c"))
	stay(t, moved("a", "b"), bytesOf("a", "b", "c"), token("a", "c", "d"))
	stay(t, plain(api.AddText, "a"), moved("a", "b"), plain(api.RmText, "b"))
	stay(t, plain(api.AddText, "a"), hunk(0, "", "x"), plain(api.RmText, "a"))
}

// TestCoalesceWrong has patches that are not right: they are one with none, not even with what undoes them.
func TestCoalesceWrong(t *testing.T) {
	for _, w := range wrong() {
		stay(t, w, w)
		stay(t, w, invert.Invert(w))
		stay(t, invert.Invert(w), w)
		stay(t, w, api.Prim{}, w)
		stay(t, plain(api.AddDir, "a"), w, plain(api.RmDir, "a"))
		coalesce(t, row(w, plain(api.AddDir, "a"), plain(api.RmDir, "a"), w), row(w, w))
	}
	stay(t, bytesOf("w", "x", "x"), bytesOf("w", "x", "y"))
	stay(t, bytesOf("w", "y", "x"), bytesOf("w", "x", "x"))
	stay(t, linesOf("w", -1, nil, []string{"x"}), linesOf("w", -1, []string{"x"}, []string{"y"}))
	stay(t, linesOf("w", 0, []string{"\n"}, []string{"x"}), linesOf("w", 0, []string{"x"}, []string{"y"}))
	stay(t, linesOf("w", 0, nil, nil), linesOf("w", 0, nil, []string{"x"}))
	stay(t, moved("w", "w/v"), moved("w/v", "v"))
	stay(t, moved("v", "W"), moved("W", "w"))
	stay(t, bytesOf("W", "x", "y"), bytesOf("W", "y", "z"))
}

func TestCoalesceNone(t *testing.T) {
	coalesce(t, nil, nil)
	coalesce(t, []api.Prim{}, nil)
	for _, p := range append(wrong(), rightOnes()...) {
		stay(t, p)
	}
}

// TestManyPatches has rows that are far longer than any patch's changes, whose joined ones reach to the first.
func TestManyPatches(t *testing.T) {
	const many = 5000
	var nest, chain, bytes []api.Prim
	for i := range many {
		nest = append(nest, plain(api.AddDir, strconv.Itoa(i)))
		chain = append(chain, moved("m"+strconv.Itoa(i), "m"+strconv.Itoa(i+1)))
		bytes = append(bytes, bytesOf("a", strconv.Itoa(i), strconv.Itoa(i+1)))
	}
	stay(t, nest...)
	coalesce(t, append(nest, invert.All(nest)...), nil)
	coalesce(t, append(nest[:many:many], invert.All(nest[1:])...), nest[:1])
	coalesce(t, chain, row(moved("m0", "m"+strconv.Itoa(many))))
	coalesce(t, append(chain, invert.All(chain)...), nil)
	coalesce(t, bytes, row(bytesOf("a", "0", strconv.Itoa(many))))
	swapped, _, is := seq.Swap(nest[:100], bytes[:100])
	if !is || !alikeRow(swapped, bytes[:100]) {
		t.Errorf("Swap is %s, %t", show(swapped), is)
	}
	last(t, nest, 0, append(slices.Clone(nest[1:]), nest[0]))
}

// TestAllAtOnce has Moves none of which is one with the next, up to a last one that makes one of all. Calls that nest as deep as a row is long would have no room with rows that are long enough; here they have little, so that this one is.
func TestAllAtOnce(t *testing.T) {
	defer debug.SetMaxStack(debug.SetMaxStack(1 << 19))
	const many = 1 << 16
	places := []string{"a", "b", "a/c", "b/c"}
	l := make([]api.Prim, many)
	for i := range l {
		l[i] = moved(places[i%4], places[(i+1)%4])
	}
	if got := seq.Coalesce(l); !alikeRow(got, l) {
		t.Fatalf("%d are left", len(got))
	}
	coalesce(t, append(l, moved(places[0], "d")), row(moved("a", "d")))
}
