package record_test

import (
	"fmt"
	"slices"
	"strings"
	"testing"

	"counterpane/api"
	"counterpane/record"
)

func dir(p string) api.Entry { return api.Entry{Path: p, Kind: api.KindDir} }

func text(p string, l ...string) api.Entry {
	return api.Entry{Path: p, Kind: api.KindText, Lines: l}
}

func data(p, b string) api.Entry { return api.Entry{Path: p, Kind: api.KindData, Data: b} }

// things is a tree, if what is handed in is one.
func things(l ...api.Entry) []api.Entry { return l }

// plain is a patch of a kind that names nothing but a path.
func plain(kind int, p string) api.Prim { return api.Prim{Kind: kind, Path: p} }

func linesOf(p string, at int, old, now []string) api.Prim {
	return api.Prim{Kind: api.Lines, Path: p, At: at, Old: old, New: now}
}

func bytesOf(p, from, to string) api.Prim {
	return api.Prim{Kind: api.Bytes, Path: p, From: from, To: to}
}

func row(l ...api.Prim) []api.Prim { return l }

func words(l ...string) []string { return l }

func alikePatch(p, q api.Prim) bool {
	return p.Kind == q.Kind && p.Path == q.Path && p.To == q.To && p.From == q.From && p.At == q.At && slices.Equal(p.Old, q.Old) && slices.Equal(p.New, q.New)
}

func alikeRow(l, m []api.Prim) bool { return slices.EqualFunc(l, m, alikePatch) }

// alike tells whether two trees are the same.
func alike(l, m []api.Entry) bool {
	return slices.EqualFunc(l, m, func(x, y api.Entry) bool {
		return x.Path == y.Path && x.Kind == y.Kind && x.Data == y.Data && slices.Equal(x.Lines, y.Lines)
	})
}

// show tells something, at least its beginning.
func show(what any) string { return fmt.Sprintf("%.300s", fmt.Sprintf("%+v", what)) }

// recorded asks what is recorded of two trees.
func recorded(t *testing.T, old, now []api.Entry, want ...api.Prim) {
	t.Helper()
	got, e := record.Record(old, now)
	if e != api.OK || !alikeRow(got, want) {
		t.Errorf("Record(%s, %s) is %s, %d; want %s", show(old), show(now), show(got), e, show(want))
	}
}

// TestComeAndGo has things that are in one of two trees alone.
func TestComeAndGo(t *testing.T) {
	recorded(t, nil, nil)
	recorded(t, nil, things(dir("a")), plain(api.AddDir, "a"))
	recorded(t, nil, things(text("a")), plain(api.AddText, "a"))
	recorded(t, nil, things(data("a", "")), plain(api.AddData, "a"))
	recorded(t, nil, things(text("a", "x", "y")), plain(api.AddText, "a"), linesOf("a", 0, nil, words("x", "y")))
	recorded(t, nil, things(text("a", "")), plain(api.AddText, "a"), linesOf("a", 0, nil, words("")))
	recorded(t, nil, things(data("a", "x\n")), plain(api.AddData, "a"), bytesOf("a", "", "x\n"))
	recorded(t, things(dir("a")), nil, plain(api.RmDir, "a"))
	recorded(t, things(text("a")), nil, plain(api.RmText, "a"))
	recorded(t, things(data("a", "")), nil, plain(api.RmData, "a"))
	recorded(t, things(text("a", "x", "y")), nil, linesOf("a", 0, words("x", "y"), nil), plain(api.RmText, "a"))
	recorded(t, things(text("a", "")), nil, linesOf("a", 0, words(""), nil), plain(api.RmText, "a"))
	recorded(t, things(data("a", "\x00\xff")), nil, bytesOf("a", "\x00\xff", ""), plain(api.RmData, "a"))
	recorded(t, things(text("a", "x")), things(text("b", "x")), linesOf("a", 0, words("x"), nil), plain(api.RmText, "a"), plain(api.AddText, "b"), linesOf("b", 0, nil, words("x")))
	recorded(t, things(text("b", "x")), things(text("a", "x")), linesOf("b", 0, words("x"), nil), plain(api.RmText, "b"), plain(api.AddText, "a"), linesOf("a", 0, nil, words("x")))
}

// TestKept has things that both trees have.
func TestKept(t *testing.T) {
	recorded(t, things(text("a", "x")), things(text("a", "x", "y")), linesOf("a", 1, nil, words("y"))) // the chapter's example
	recorded(t, things(text("a", "x", "y")), things(text("a")), linesOf("a", 0, words("x", "y"), nil))
	recorded(t, things(text("a")), things(text("a", "x")), linesOf("a", 0, nil, words("x")))
	recorded(t, things(text("a", "x")), things(text("a", "y")), linesOf("a", 0, words("x"), words("y")))
	// A hunk's place is told in the lines that come, not in those that were there.
	recorded(t, things(text("a", "1", "2", "3", "4", "5")), things(text("a", "2", "x", "3", "4")),
		linesOf("a", 0, words("1"), nil), linesOf("a", 1, nil, words("x")), linesOf("a", 4, words("5"), nil))
	recorded(t, things(data("a", "x")), things(data("a", "y")), bytesOf("a", "x", "y"))
	recorded(t, things(data("a", "")), things(data("a", "y")), bytesOf("a", "", "y"))
	recorded(t, things(data("a", "x")), things(data("a", "")), bytesOf("a", "x", ""))
	recorded(t, things(dir("a"), text("a/b", "x"), text("c", "y")), things(dir("a"), text("a/b", "x"), text("c", "y", "z")), linesOf("c", 1, nil, words("z")))
	recorded(t, things(data("a", "x"), text("b", "x")), things(data("a", "y"), text("b", "y")), bytesOf("a", "x", "y"), linesOf("b", 0, words("x"), words("y")))
}

// TestOtherKind has paths at which both trees have something, but of unlike kinds.
func TestOtherKind(t *testing.T) {
	recorded(t, things(dir("a")), things(text("a")), plain(api.RmDir, "a"), plain(api.AddText, "a"))
	recorded(t, things(text("a")), things(data("a", "")), plain(api.RmText, "a"), plain(api.AddData, "a"))
	recorded(t, things(data("a", "")), things(dir("a")), plain(api.RmData, "a"), plain(api.AddDir, "a"))
	// What a thing of another kind was is not what this one was.
	recorded(t, things(text("a", "x")), things(data("a", "x")), linesOf("a", 0, words("x"), nil), plain(api.RmText, "a"), plain(api.AddData, "a"), bytesOf("a", "", "x"))
	recorded(t, things(data("a", "x")), things(text("a", "x")), bytesOf("a", "x", ""), plain(api.RmData, "a"), plain(api.AddText, "a"), linesOf("a", 0, nil, words("x")))
	recorded(t, things(dir("a"), text("a/b", "x"), data("a/c", "y")), things(text("a", "z")),
		bytesOf("a/c", "y", ""), plain(api.RmData, "a/c"), linesOf("a/b", 0, words("x"), nil), plain(api.RmText, "a/b"), plain(api.RmDir, "a"),
		plain(api.AddText, "a"), linesOf("a", 0, nil, words("z")))
	recorded(t, things(text("a", "z")), things(dir("a"), text("a/b", "x"), data("a/c", "y")),
		linesOf("a", 0, words("z"), nil), plain(api.RmText, "a"),
		plain(api.AddDir, "a"), plain(api.AddText, "a/b"), linesOf("a/b", 0, nil, words("x")), plain(api.AddData, "a/c"), bytesOf("a/c", "", "y"))
}

// TestOrder: paths fall and rise byte by byte, and some bytes are below the slash.
func TestOrder(t *testing.T) {
	l := things(dir("a"), dir("a-"), text("a-/x"), dir("a."), dir("a/b"), dir("a/b/c"), dir("a0"))
	recorded(t, nil, l, plain(api.AddDir, "a"), plain(api.AddDir, "a-"), plain(api.AddText, "a-/x"), plain(api.AddDir, "a."), plain(api.AddDir, "a/b"), plain(api.AddDir, "a/b/c"), plain(api.AddDir, "a0"))
	recorded(t, l, nil, plain(api.RmDir, "a0"), plain(api.RmDir, "a/b/c"), plain(api.RmDir, "a/b"), plain(api.RmDir, "a."), plain(api.RmText, "a-/x"), plain(api.RmDir, "a-"), plain(api.RmDir, "a"))
	// All that goes, goes ahead of all that comes or changes.
	recorded(t, things(text("a", "x"), dir("c"), text("z", "y")), things(text("a", "w"), dir("b")),
		linesOf("z", 0, words("y"), nil), plain(api.RmText, "z"), plain(api.RmDir, "c"), linesOf("a", 0, words("x"), words("w")), plain(api.AddDir, "b"))
}

// TestSameAgain: of alike trees nothing is recorded, whether their lists are empty or none at all.
func TestSameAgain(t *testing.T) {
	l := things(dir("a"), text("a/b", "x", "", "x"), text("a/c"), data("d", "x"), data("e", ""))
	recorded(t, l, l)
	m := things(dir("a"), text("a/b", "x", "", "x"), text("a/c"), data("d", "x"), data("e", ""))
	for i := range m {
		m[i].Lines = append([]string{}, m[i].Lines...)
	}
	recorded(t, l, m)
	recorded(t, m, l)
	recorded(t, nil, things())
	recorded(t, full("x"), full("x"))
}

// full is a tree of as many things as there may be; its texts have that line.
func full(line string) []api.Entry {
	l := things(dir("d"))
	for i := range api.MaxEntries - 4 {
		l = append(l, text(fmt.Sprintf("d/%04d", i), line))
	}
	return append(l, dir("e"), text("t"), data("u", ""))
}

// noTrees are things that are none, each for one reason.
func noTrees() [][]api.Entry {
	long := strings.Repeat("a", api.MaxPart+1)
	deep := things(dir("a"))
	for range api.MaxDeep {
		deep = append(deep, dir(deep[len(deep)-1].Path+"/a"))
	}
	return [][]api.Entry{
		{{}}, {dir("")}, {dir("A")}, {dir("/a")}, {dir("a/")}, {dir("..")}, {dir("a"), dir("a/.")}, {dir(long)}, deep,
		{dir("b"), dir("a")}, {dir("a"), dir("a")}, {dir("a"), text("a", "x")}, {dir("a"), text("a/b"), text("a-")},
		{{Path: "a"}}, {{Path: "a", Kind: -1}}, {{Path: "a", Kind: 4}}, {{Path: "a", Kind: 1 << 40}}, {{Path: "a", Kind: -1 << 63}},
		{text("a", "x\n")}, {text("a", "x", "\n")}, {{Path: "a", Kind: api.KindDir, Lines: words("")}}, {{Path: "a", Kind: api.KindData, Lines: words("x")}},
		{{Path: "a", Kind: api.KindDir, Data: "x"}}, {{Path: "a", Kind: api.KindText, Data: "x"}},
		{dir("a/b")}, {text("a"), text("a/b")}, {data("a", ""), dir("a/b")}, {dir("a"), dir("a/b/c")},
		append(full("x"), dir("v")),
	}
}

func TestNoTree(t *testing.T) {
	right := [][]api.Entry{nil, {dir("a")}, {text("a", "x"), data("b", "x")}, full("x")}
	refused := func(old, now []api.Entry) {
		t.Helper()
		if got, e := record.Record(old, now); len(got) != 0 || e != api.ErrArg {
			t.Errorf("Record(%s, %s) is %s, %d; want ErrArg alone", show(old), show(now), show(got), e)
		}
	}
	for _, wrong := range noTrees() {
		refused(wrong, wrong)
		for _, l := range right {
			refused(wrong, l)
			refused(l, wrong)
		}
	}
}
