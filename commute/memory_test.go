package commute_test

import (
	"slices"
	"testing"

	"counterpane/api"
	"counterpane/commute"
)

// roomy has lists with spare room behind them, in a row with room too; the first and the third have one list as Old and New.
func roomy() []api.Prim {
	list := func(l ...string) []string { return append(l, "spare", "spare", "spare")[:len(l)] }
	one, other := list("x", "y"), list("z")
	row := append(make([]api.Prim, 0, 20),
		linesOf("a", 0, one, one),
		linesOf("a", 9, list("z"), list()),
		linesOf("b", 3, other, other),
		linesOf("b", 0, list(), list("v", "w")),
		api.Prim{Kind: api.Move, Path: "a", To: "c", Old: list(), New: list()},
		api.Prim{Kind: api.AddDir, Path: "d", Old: list(), New: list()},
	)
	return append(row, plain(api.AddDir, "spare"))[:len(row)]
}

// whole is patches, those in the room behind them too, with all room behind their lines.
func whole(l []api.Prim) []api.Prim {
	m := slices.Clone(l[:cap(l)])
	for i := range m {
		m[i].Old, m[i].New = slices.Clone(m[i].Old[:cap(m[i].Old)]), slices.Clone(m[i].New[:cap(m[i].New)])
	}
	return m
}

// spoil changes all of a list, and of its spare room.
func spoil(l []string) {
	for i := range l[:cap(l)] {
		l[:cap(l)][i] = "spoilt"
	}
}

// spoilAll changes all that can be reached from patches.
func spoilAll(l []api.Prim) {
	for i, p := range l[:cap(l)] {
		spoil(p.Old)
		spoil(p.New)
		l[:cap(l)][i] = api.Prim{Path: "spoilt"}
	}
}

// answers are all patches that some calls on l answer, those of one list a row.
func answers(t *testing.T, l []api.Prim) [][]api.Prim {
	t.Helper()
	var rows [][]api.Prim
	for i := range l[1:] {
		if a, b, is := commute.Commute(l[i], l[i+1]); is {
			rows = append(rows, []api.Prim{a, b})
		}
	}
	for n := range l {
		ahead, behind, is := commute.Past(l[0], l[1:n+1])
		if !is {
			t.Fatalf("%s cannot pass %s", show(l[0]), show(l[1:n+1]))
		}
		rows = append(rows, ahead, []api.Prim{behind})
	}
	// A patch, and the same one behind it, of which all four lists are one.
	p := l[2]
	p.At = 9
	a, b, is := commute.Commute(l[2], p)
	if !is {
		t.Fatalf("Commute(%s, %s) cannot be", show(l[2]), show(p))
	}
	return append(rows, []api.Prim{a, b})
}

// TestHandedIn: what is handed in stays as it was, its spare room too, whatever is done to what comes out.
func TestHandedIn(t *testing.T) {
	l := roomy()
	was := whole(l)
	for _, row := range answers(t, l) {
		spoilAll(row)
	}
	if !alikeRow(whole(l), was) {
		t.Errorf("%s became %s", show(was), show(whole(l)))
	}
}

// TestAnswersAreNew: what is done to what was handed in is not to be seen in an answer, and no two lists of it share memory.
func TestAnswersAreNew(t *testing.T) {
	l := roomy()
	got, want := answers(t, l), answers(t, roomy())
	if len(got) < 8 {
		t.Fatalf("only %d answers", len(got))
	}
	spoilAll(l)
	for i := range got {
		for j, p := range got[i] {
			if !alikePatch(p, want[i][j]) {
				t.Fatalf("answer %d, at %d: %s; want %s", i, j, show(p), show(want[i][j]))
			}
			spoil(p.Old)
			if !slices.Equal(p.New, want[i][j].New) {
				t.Fatalf("answer %d, at %d: Old and New share memory", i, j)
			}
			spoil(p.New)
		}
	}
}
