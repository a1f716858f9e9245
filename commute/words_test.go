package commute_test

import (
	"strings"
	"testing"

	"counterpane/api"
	"counterpane/commute"
	"counterpane/prim"
)

func isChange(p api.Prim) bool   { return p.Kind >= 7 && p.Kind <= 9 }
func isAddition(p api.Prim) bool { return p.Kind >= 1 && p.Kind <= 6 }
func isMove(p api.Prim) bool     { return p.Kind == 10 }

func within(p, q string) bool { return p == q || strings.HasPrefix(p, q+"/") }
func apart(p, q string) bool  { return !within(p, q) && !within(q, p) }

// byWords is the chapter's J1, word by word, but for what is right.
func byWords(p, q api.Prim) (api.Prim, api.Prim, bool) {
	first, second := q, p
	switch {
	case isChange(p) && isChange(q) && p.Path != q.Path:
		return first, second, true
	case p.Kind == 7 && q.Kind == 7 && q.At > p.At+len(p.New):
		first.At = q.At - len(p.New) + len(p.Old)
		return first, second, true
	case p.Kind == 7 && q.Kind == 7 && p.At > q.At+len(q.Old):
		second.At = p.At + len(q.New) - len(q.Old)
		return first, second, true
	case isAddition(p) && isChange(q), isChange(p) && isAddition(q):
		return first, second, p.Path != q.Path
	case isAddition(p) && isAddition(q):
		return first, second, apart(p.Path, q.Path)
	case isMove(p) && isChange(q) && within(q.Path, p.To):
		first.Path = p.Path + q.Path[len(p.To):]
		return first, second, true
	case isMove(p) && isChange(q):
		return first, second, !within(q.Path, p.Path)
	case isChange(p) && isMove(q) && within(p.Path, q.Path):
		second.Path = q.To + p.Path[len(q.Path):]
		return first, second, true
	case isChange(p) && isMove(q):
		return first, second, !within(p.Path, q.To)
	case isMove(p) && isAddition(q):
		return first, second, apart(q.Path, p.Path) && apart(q.Path, p.To)
	case isAddition(p) && isMove(q):
		return first, second, apart(p.Path, q.Path) && apart(p.Path, q.To)
	case isMove(p) && isMove(q):
		return first, second, apart(p.Path, q.Path) && apart(p.Path, q.To) && apart(p.To, q.Path) && apart(p.To, q.To)
	}
	return first, second, false
}

// want is what Commute must answer.
func want(p, q api.Prim) (api.Prim, api.Prim, bool) {
	if !prim.Right(p) || !prim.Right(q) {
		return api.Prim{}, api.Prim{}, false
	}
	first, second, is := byWords(p, q)
	if !is || !prim.Right(first) || !prim.Right(second) {
		return api.Prim{}, api.Prim{}, false
	}
	return first, second, true
}

// someKinds are patches of all kinds of a path, right ones and others.
func someKinds(at string, tos []string) []api.Prim {
	x := []string{"x"}
	l := append(changesOf(at), additionsOf(at)...)
	l = append(l, plain(0, at), plain(11, at), token(at, "x", "x"), linesOf(at, -1, x, nil), linesOf(at, 0, nil, nil))
	for _, to := range tos {
		l = append(l, moved(at, to))
	}
	return l
}

// shortLines are Lines of one text, of all sorts of places and lengths.
func shortLines() []api.Prim {
	var l []api.Prim
	for _, at := range []int{-1, 0, 1, 2, 3, 4, 5, 6, api.MaxAt - 3, api.MaxAt - 2, api.MaxAt - 1, api.MaxAt, api.MaxAt + 1} {
		for old := range 4 {
			for now := range 4 {
				l = append(l, hunk(at, old, now))
			}
		}
	}
	return l
}

// eachPair holds Commute against the words, and asks P10.3, of all pairs; it counts those that can be, by their kinds.
func eachPair(t *testing.T, l []api.Prim, count map[[2]int]int) {
	t.Helper()
	for _, p := range l {
		for _, q := range l {
			a, b, is := commute.Commute(p, q)
			first, second, may := want(p, q)
			if is != may || !alikePatch(a, first) || !alikePatch(b, second) {
				t.Fatalf("Commute(%s, %s) is %s, %s, %t; want %s, %s, %t", show(p), show(q), show(a), show(b), is, show(first), show(second), may)
			}
			if is {
				count[[2]int{p.Kind, q.Kind}]++
				back(t, p, q, a, b)
			}
		}
	}
}

// back asks P10.3 of p and q, which are a and b the other way about.
func back(t *testing.T, p, q, a, b api.Prim) {
	t.Helper()
	x, y, is := commute.Commute(a, b)
	if !is || !alikePatch(x, p) || !alikePatch(y, q) {
		t.Fatalf("Commute(%s, %s) is %s, %s, and back %s, %s, %t", show(p), show(q), show(a), show(b), show(x), show(y), is)
	}
}

func TestByWords(t *testing.T) {
	paths := []string{"a", "ab", "a-", "a/b", "a/b/c", "a/bc", "b", "b/a", "b/c", "c", deep("a", 5), deep("a", api.MaxDeep), deep("a", api.MaxDeep+1), "", "a/", "B"}
	var l []api.Prim
	for _, at := range paths {
		l = append(l, someKinds(at, paths)...)
	}
	count := map[[2]int]int{}
	eachPair(t, l, count)
	for p := 1; p <= 10; p++ {
		for q := 1; q <= 10; q++ {
			if count[[2]int{p, q}] < 50 {
				t.Errorf("only %d of kind %d with kind %d behind", count[[2]int{p, q}], p, q)
			}
		}
	}
	eachPair(t, shortLines(), count)
}

// pastByWords is the chapter's J2, word by word.
func pastByWords(p api.Prim, l []api.Prim) ([]api.Prim, api.Prim, bool) {
	if len(l) == 0 {
		return nil, p, true
	}
	first, second, is := want(p, l[0])
	if !is {
		return nil, api.Prim{}, false
	}
	rest, last, is := pastByWords(second, l[1:])
	if !is {
		return nil, api.Prim{}, false
	}
	return append([]api.Prim{first}, rest...), last, true
}

// TestPastByWords has all rows of up to three behind all patches.
func TestPastByWords(t *testing.T) {
	l := []api.Prim{
		hunk(0, 1, 2), hunk(3, 1, 0), hunk(6, 0, 1), linesOf("b", 2, []string{"x"}, nil), linesOf("b/a", 0, nil, []string{"x"}),
		token("a", "x", "y"), bytesOf("b/c", "x", "y"), moved("a", "b"), moved("b", "a"), moved("a", "c"), moved("b/a", "d"),
		plain(api.AddDir, "a"), plain(api.RmText, "b"), plain(api.AddData, "b/c"), plain(api.RmDir, "e"), plain(0, "e"), moved("c", deep("d", api.MaxDeep)),
	}
	rows := [][]api.Prim{nil}
	can := 0
	for n := 0; n < len(rows); n++ {
		row := rows[n]
		for _, p := range l {
			ahead, behind, is := commute.Past(p, row)
			first, last, may := pastByWords(p, row)
			if is != may || !alikeRow(ahead, first) || !alikePatch(behind, last) {
				t.Fatalf("Past(%s, %s) is %s, %s, %t; want %s, %s, %t", show(p), show(row), show(ahead), show(behind), is, show(first), show(last), may)
			}
			if is && len(row) == 3 {
				can++
			}
			if len(row) < 3 {
				rows = append(rows, append(row[:len(row):len(row)], p))
			}
		}
	}
	if can < 1000 {
		t.Errorf("only %d passed three", can)
	}
}
