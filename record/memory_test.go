package record_test

import (
	"slices"
	"testing"

	"counterpane/api"
	"counterpane/record"
)

// roomy are two trees, with spare room behind them and behind all their lines; some of these are one list.
func roomy() (old, now []api.Entry) {
	old = withRoom(
		dir("a"), text("a/b", "x"), text("a/c", "y", "z"),
		text("k", "1", "2", "3", "4"), data("m", "x"), text("n", "x"), data("o", "x"), text("p", "y", "z"),
	)
	now = withRoom(
		text("a", "x"), text("b"), text("c"), data("d", "x"),
		text("k", "0", "1", "3", "5"), data("m", "y"), text("n", "y", "z"), text("o", "x"), text("p", "y", "v"),
	)
	now[1].Lines, now[2].Lines = old[2].Lines, old[2].Lines
	return old, now
}

// withRoom is things with room behind them, and behind their lines, in which something stands.
func withRoom(l ...api.Entry) []api.Entry {
	for i, x := range l {
		l[i].Lines = append(slices.Clone(x.Lines), "spare", "spare", "spare")[:len(x.Lines)]
	}
	return append(l, text("spare", "spare"), dir("spare"))[:len(l)]
}

// whole is a tree, with what stands in the room behind it, and with all room behind its lines.
func whole(l []api.Entry) []api.Entry {
	m := slices.Clone(l[:cap(l)])
	for i := range m {
		m[i].Lines = slices.Clone(m[i].Lines[:cap(m[i].Lines)])
	}
	return m
}

// spoil changes all of a list, and of its spare room.
func spoil(l []string) {
	for i := range l[:cap(l)] {
		l[:cap(l)][i] = "spoilt"
	}
}

// spoilTree changes all that can be reached from a tree.
func spoilTree(l []api.Entry) {
	for i, x := range l[:cap(l)] {
		spoil(x.Lines)
		l[:cap(l)][i] = api.Entry{Path: "spoilt"}
	}
}

// spoilRow changes all that can be reached from patches.
func spoilRow(l []api.Prim) {
	for i, p := range l[:cap(l)] {
		spoil(p.Old)
		spoil(p.New)
		l[:cap(l)][i] = api.Prim{Path: "spoilt"}
	}
}

// TestHandedIn: what is handed in stays as it was, its spare room too, whatever is done to what comes out.
func TestHandedIn(t *testing.T) {
	old, now := roomy()
	wasOld, wasNow := whole(old), whole(now)
	for _, trees := range [][2][]api.Entry{{old, now}, {now, old}, {old, nil}, {nil, old}, {nil, now}, {now[:2], now}, {old, old}} {
		l, e := record.Record(trees[0], trees[1])
		if e != api.OK {
			t.Fatalf("Record is %d", e)
		}
		spoilRow(l)
		if !alike(whole(old), wasOld) || !alike(whole(now), wasNow) {
			t.Fatalf("%s and %s became %s and %s", show(wasOld), show(wasNow), show(whole(old)), show(whole(now)))
		}
	}
}

// TestAnswerIsNew: what is done to what was handed in is not to be seen in an answer, and no two lists of it share memory.
func TestAnswerIsNew(t *testing.T) {
	old, now := roomy()
	want := byWords(roomy())
	l, e := record.Record(old, now)
	spoilTree(old)
	spoilTree(now)
	if e != api.OK || !alikeRow(l, want) || len(l) < 20 {
		t.Fatalf("it is %s, %d; want %s", show(l), e, show(want))
	}
	for i, p := range l {
		spoil(p.Old)
		if !slices.Equal(p.New, want[i].New) {
			t.Fatalf("%s: Old and New share memory", show(want[i]))
		}
		spoil(p.New)
		if !alikeRow(l[i+1:], want[i+1:]) {
			t.Fatalf("%s shares memory with one behind it", show(want[i]))
		}
	}
}

// TestOnceMore: the same of the same, in whatever order a map is gone through, and whatever was recorded ahead of it.
func TestOnceMore(t *testing.T) {
	old, now := roomy()
	want := byWords(old, now)
	for range 50 {
		recorded(t, old, now, want...)
		recorded(t, now, old, byWords(now, old)...)
		recorded(t, now, now)
	}
}
