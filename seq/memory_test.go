package seq_test

import (
	"slices"
	"testing"

	"counterpane/api"
	"counterpane/seq"
)

// roomy has lists with spare room behind them, in a row with room too; some have one list as Old and New, and some share one with another. The first three are one patch, and so are the next two.
func roomy() []api.Prim {
	list := func(l ...string) []string { return append(l, "spare", "spare", "spare")[:len(l)] }
	one, other := list("x", "y"), list("z")
	l := append(make([]api.Prim, 0, 20),
		linesOf("a", 9, list("v"), one),
		linesOf("a", 9, one, one),
		linesOf("a", 9, one, other),
		linesOf("b", 3, other, list()),
		linesOf("b", 3, list(), other),
		linesOf("c", 0, one, list()),
		linesOf("d", 0, other, list("v", "w")),
		api.Prim{Kind: api.AddDir, Path: "e", Old: list(), New: list()},
		linesOf("c", 5, one, one),
		api.Prim{Kind: api.Move, Path: "f", To: "g", Old: list(), New: list()},
	)
	return append(l, plain(api.AddDir, "spare"))[:len(l)]
}

// whole is patches, those in the room behind them too, with all room behind their lines.
func whole(l []api.Prim) []api.Prim {
	m := slices.Clone(l[:cap(l)])
	for i := range m {
		m[i].Old, m[i].New = slices.Clone(m[i].Old[:cap(m[i].Old)]), slices.Clone(m[i].New[:cap(m[i].New)])
	}
	return m
}

// spoil changes all of a list, and of its spare room.
func spoil(l []string) {
	for i := range l[:cap(l)] {
		l[:cap(l)][i] = "spoilt"
	}
}

// spoilAll changes all that can be reached from patches.
func spoilAll(l []api.Prim) {
	for i, p := range l[:cap(l)] {
		spoil(p.Old)
		spoil(p.New)
		l[:cap(l)][i] = api.Prim{Path: "spoilt"}
	}
}

// answers are all lists that some calls on l answer, those of one call beside one another.
func answers(t *testing.T, l []api.Prim) [][][]api.Prim {
	t.Helper()
	all := [][][]api.Prim{{seq.Coalesce(l)}, {seq.Coalesce(l[5:])}}
	for n := range len(l) + 1 {
		all = append(all, [][]api.Prim{seq.Coalesce(l[:n])})
		for _, from := range []int{0, 3, 5} {
			if n < from {
				continue
			}
			if x, y, is := seq.Swap(l[from:n], l[n:]); is {
				all = append(all, [][]api.Prim{x, y})
			}
		}
		if m, is := seq.Last(l, n); is {
			all = append(all, [][]api.Prim{m})
		}
	}
	if len(all) < len(l)+15 {
		t.Fatalf("only %d answers", len(all))
	}
	return all
}

// TestHandedIn: what is handed in stays as it was, its spare room too, whatever is done to what comes out.
func TestHandedIn(t *testing.T) {
	l := roomy()
	was := whole(l)
	for _, lists := range answers(t, l) {
		for _, m := range lists {
			spoilAll(m)
		}
	}
	if !alikeRow(whole(l), was) {
		t.Errorf("%s became %s", show(was), show(whole(l)))
	}
}

// TestAnswersAreNew: what is done to what was handed in is not to be seen in an answer, and no two lists of it share memory.
func TestAnswersAreNew(t *testing.T) {
	l := roomy()
	got, want := answers(t, l), answers(t, roomy())
	spoilAll(l)
	for i := range got {
		for j := range got[i] {
			for k, p := range got[i][j] {
				if !alikePatch(p, want[i][j][k]) {
					t.Fatalf("answer %d, list %d, at %d: %s; want %s", i, j, k, show(p), show(want[i][j][k]))
				}
				spoil(p.Old)
				if !slices.Equal(p.New, want[i][j][k].New) {
					t.Fatalf("answer %d, list %d, at %d: Old and New share memory", i, j, k)
				}
				spoil(p.New)
			}
			spoilAll(got[i][j])
		}
	}
}

// TestRoomBehind: in the room behind what was joined nothing is left of what it was made of.
func TestRoomBehind(t *testing.T) {
	got := seq.Coalesce(roomy()[:3])
	if len(got) != 1 {
		t.Fatalf("it is %s", show(got))
	}
	for _, p := range got[:cap(got)][1:] {
		spoil(p.Old)
		spoil(p.New)
	}
	if !alikePatch(got[0], linesOf("a", 9, []string{"v"}, []string{"z"})) {
		t.Errorf("it is %s", show(got))
	}
}
