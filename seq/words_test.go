package seq_test

import (
	"slices"
	"testing"

	"counterpane/api"
	"counterpane/commute"
	"counterpane/prim"
	"counterpane/seq"
)

// undoes tells whether q is what undoes p, both of them right.
func undoes(q, p api.Prim) bool {
	w := q
	switch p.Kind {
	case 1, 3, 5:
		w.Kind = p.Kind + 1
	case 2, 4, 6:
		w.Kind = p.Kind - 1
	case 7:
		w = linesOf(p.Path, p.At, p.New, p.Old)
	case 8, 9:
		w = api.Prim{Kind: p.Kind, Path: p.Path, From: p.To, To: p.From}
	case 10:
		w = moved(p.To, p.Path)
	}
	return alikePatch(q, w) && (p.Kind > 6 || q.Path == p.Path)
}

// apart tells whether neither path lies in the other.
func apart(p, q string) bool {
	p, q = p+"/", q+"/"
	n := min(len(p), len(q))
	return p[:n] != q[:n]
}

// oneByWords is the chapter's section 'Types', word by word.
func oneByWords(p, q api.Prim) (what []api.Prim, are bool) {
	switch {
	case !prim.Right(p) || !prim.Right(q):
		return nil, false
	case undoes(q, p):
		return nil, true
	case p.Kind == 9 && q.Kind == 9 && p.Path == q.Path && q.From == p.To:
		return row(bytesOf(p.Path, p.From, q.To)), true
	case p.Kind == 7 && q.Kind == 7 && p.Path == q.Path && p.At == q.At && slices.Equal(p.New, q.Old):
		return row(linesOf(p.Path, p.At, p.Old, q.New)), true
	case p.Kind == 10 && q.Kind == 10 && q.Path == p.To && apart(p.Path, q.To):
		return row(moved(p.Path, q.To)), true
	}
	return nil, false
}

// putByWords has a patch stand behind a row as K2 says.
func putByWords(l []api.Prim, p api.Prim) []api.Prim {
	if len(l) == 0 {
		return row(p)
	}
	what, are := oneByWords(l[len(l)-1], p)
	switch {
	case !are:
		return append(l[:len(l):len(l)], p)
	case len(what) == 0:
		return l[:len(l)-1]
	}
	return putByWords(l[:len(l)-1], what[0])
}

// coalesceByWords is the chapter's K2, word by word.
func coalesceByWords(l []api.Prim) []api.Prim {
	var made []api.Prim
	for _, p := range l {
		made = putByWords(made, p)
	}
	return made
}

// swapByPairs is the chapter's K1, by Commute alone, and in another order: each of b, from the first on, goes ahead of all of a.
func swapByPairs(a, b []api.Prim) (ahead, behind []api.Prim, is bool) {
	behind = slices.Clone(a)
	for _, q := range b {
		for i := len(behind) - 1; i >= 0; i-- {
			var can bool
			if q, behind[i], can = commute.Commute(behind[i], q); !can {
				return nil, nil, false
			}
		}
		ahead = append(ahead, q)
	}
	return ahead, behind, true
}

// lastByPairs is the chapter's Last, by Commute alone.
func lastByPairs(l []api.Prim, at int) ([]api.Prim, bool) {
	if at < 0 || at >= len(l) {
		return nil, false
	}
	m := slices.Clone(l)
	for i := at; i+1 < len(m); i++ {
		var can bool
		if m[i], m[i+1], can = commute.Commute(m[i], m[i+1]); !can {
			return nil, false
		}
	}
	return m, true
}

// eachRow calls f with all rows of up to most patches of l.
func eachRow(l []api.Prim, most int, f func(r []api.Prim)) {
	var more func(r []api.Prim)
	more = func(r []api.Prim) {
		f(r)
		if len(r) == most {
			return
		}
		for _, p := range l {
			more(append(r[:len(r):len(r)], p))
		}
	}
	more(nil)
}

// coalesceAll holds Coalesce against the words, of all rows of up to most patches of l, and asks that some come to each length.
func coalesceAll(t *testing.T, l []api.Prim, most int) {
	t.Helper()
	lengths := map[[2]int]int{}
	eachRow(l, most, func(r []api.Prim) {
		got, want := seq.Coalesce(r), coalesceByWords(r)
		if !alikeRow(got, want) {
			t.Fatalf("Coalesce(%s) is %s; want %s", show(r), show(got), show(want))
		}
		if again := seq.Coalesce(got); !alikeRow(again, got) {
			t.Fatalf("Coalesce(%s) is %s, and that once more %s", show(r), show(got), show(again))
		}
		lengths[[2]int{len(r), len(got)}]++
	})
	for n := range most + 1 {
		if lengths[[2]int{most, n}] == 0 && (n > 0 || most%2 == 0) {
			t.Errorf("of rows of %d none has %d left", most, n)
		}
	}
}

func TestCoalesceByWords(t *testing.T) {
	places := []string{"a", "b", "a/c", "b/c", "d"}
	var moves, lines []api.Prim
	for _, from := range places {
		for _, to := range places {
			moves = append(moves, moved(from, to))
		}
	}
	coalesceAll(t, slices.DeleteFunc(slices.Clone(moves), func(p api.Prim) bool { return !prim.Right(p) }), 4)
	coalesceAll(t, moves, 3)
	some := [][]string{nil, {"x"}, {"y"}, {"x", "y"}}
	for _, at := range []int{0, 1} {
		for _, old := range some {
			for _, now := range some {
				lines = append(lines, linesOf("a", at, old, now))
			}
		}
	}
	coalesceAll(t, append(lines, linesOf("b", 0, some[1], some[2])), 3)
	coalesceAll(t, row(hunk(0, "x", "y"), hunk(0, "y", "x"), hunk(0, "x", ""), hunk(0, "", "x"), hunk(0, "y", ""), hunk(0, "x", "x"), hunk(1, "x", "y")), 5)
	coalesceAll(t, kinds(), 3)
	coalesceAll(t, append(rightOnes(), wrong()...), 2)
}

// kinds are patches of all kinds, some of which are one with others, and some that are not right.
func kinds() []api.Prim {
	l := row(hunk(0, "x", "y"), hunk(0, "y", "z"), token("a", "x", "y"), token("a", "y", "x"), token("a", "y", "z"), moved("a", "b"), moved("b", "a"), moved("b", "c"),
		api.Prim{}, plain(api.Move+1, "a"), bytesOf("a", "x", "x"), linesOf("a", -1, nil, []string{"x"}))
	for kind := api.AddDir; kind <= api.RmData; kind++ {
		l = append(l, plain(kind, "a"))
	}
	for _, from := range []string{"", "x", "y"} {
		for _, to := range []string{"", "x", "y"} {
			if from != to {
				l = append(l, bytesOf("a", from, to))
			}
		}
	}
	return append(l, plain(api.RmDir, "b"), bytesOf("b", "x", "y"))
}

// passing are patches of which many can pass one another.
func passing() []api.Prim {
	return row(
		hunk(0, "x", "y z"), hunk(3, "x", ""), hunk(6, "", "y"), linesOf("b", 2, []string{"x"}, nil), linesOf("b/a", 0, nil, []string{"x"}),
		token("a", "x", "y"), bytesOf("b/c", "x", "y"), moved("a", "b"), moved("a", "c"), moved("b/a", "d"),
		plain(api.AddDir, "a"), plain(api.RmText, "b"), plain(api.AddData, "b/c"), plain(api.RmDir, "e"), plain(0, "e"), moved("c", deep("d", api.MaxDeep)))
}

// TestSwapByPairs has all rows of up to two behind one another.
func TestSwapByPairs(t *testing.T) {
	can := map[[2]int]int{}
	eachRow(passing(), 2, func(a []api.Prim) {
		eachRow(passing(), 2, func(b []api.Prim) {
			x, y, is := seq.Swap(a, b)
			ahead, behind, may := swapByPairs(a, b)
			if is != may || !alikeRow(x, ahead) || !alikeRow(y, behind) {
				t.Fatalf("Swap(%s, %s) is %s, %s, %t; want %s, %s, %t", show(a), show(b), show(x), show(y), is, show(ahead), show(behind), may)
			}
			if is {
				can[[2]int{len(a), len(b)}]++
				swappedBack(t, a, b, x, y)
			}
		})
	})
	if can[[2]int{2, 2}] < 2000 || can[[2]int{1, 2}] < 400 || can[[2]int{2, 1}] < 400 || can[[2]int{1, 1}] < 50 {
		t.Errorf("only these were swapped: %v", can)
	}
}

// swappedBack asks P11.4 of a and b, which are x and y the other way about.
func swappedBack(t *testing.T, a, b, x, y []api.Prim) {
	t.Helper()
	c, d, is := seq.Swap(x, y)
	if !is || !alikeRow(c, a) || !alikeRow(d, b) {
		t.Fatalf("Swap(%s, %s) is %s, %s, and back %s, %s, %t", show(a), show(b), show(x), show(y), show(c), show(d), is)
	}
}

// TestLastByPairs has all places, and others, of all rows of up to four.
func TestLastByPairs(t *testing.T) {
	can := map[int]int{}
	eachRow(passing(), 4, func(l []api.Prim) {
		for at := -1; at <= len(l); at++ {
			got, is := seq.Last(l, at)
			want, may := lastByPairs(l, at)
			if is != may || !alikeRow(got, want) {
				t.Fatalf("Last(%s, %d) is %s, %t; want %s, %t", show(l), at, show(got), is, show(want), may)
			}
			if is {
				can[len(l)-1-at]++
			}
		}
	})
	for n := range 4 {
		if can[n] < 2000 {
			t.Errorf("only %d passed %d", can[n], n)
		}
	}
}
