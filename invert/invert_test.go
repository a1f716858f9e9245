package invert_test

import (
	"math"
	"slices"
	"strconv"
	"strings"
	"testing"

	"counterpane/api"
	"counterpane/invert"
	"counterpane/prim"
)

// unnamed are numbers that are no kind of patches.
func unnamed() []int {
	return []int{math.MinInt, math.MinInt + 1, -1 << 32, -256, -10, -7, -1, 0, 11, 12, 255, 256, 257, 266, 1<<32 + 1, 1<<32 + 7, math.MaxInt}
}

// crowded is a patch of a kind that has something in all fields, no two alike.
func crowded(kind int) api.Prim {
	return api.Prim{Kind: kind, Path: "path", To: "to", From: "from", At: 3, Old: []string{"old"}, New: []string{"new", "er"}}
}

// invertByWords is the chapter's I1, word by word.
func invertByWords(p api.Prim) api.Prim {
	q := p
	switch p.Kind {
	case 1, 3, 5:
		q.Kind = p.Kind + 1
	case 2, 4, 6:
		q.Kind = p.Kind - 1
	case 7:
		q.Old, q.New = p.New, p.Old
	case 8, 9:
		q.From, q.To = p.To, p.From
	case 10:
		q.Path, q.To = p.To, p.Path
	default:
		q = api.Prim{}
	}
	return q
}

// allFields calls f with what each field may be, and may not, beside all others.
func allFields(f func(p api.Prim)) {
	texts := []string{"", "a", "b", "a/b", "b+", ".."}
	lists := [][]string{nil, {}, {"x"}, {""}, {"x", "y\n"}}
	for kind := -1; kind <= api.Move+1; kind++ {
		for _, p := range []string{"", "a", "a/b", "c", "A"} {
			for i := range len(texts) * len(texts) {
				for _, at := range []int{-1, 0, 1, api.MaxAt, api.MaxAt + 1} {
					for j := range len(lists) * len(lists) {
						f(api.Prim{Kind: kind, Path: p, To: texts[i/len(texts)], From: texts[i%len(texts)], At: at, Old: lists[j/len(lists)], New: lists[j%len(lists)]})
					}
				}
			}
		}
	}
}

func TestByHand(t *testing.T) {
	x, yz := []string{"x"}, []string{"y", "z"}
	for _, c := range []struct{ p, want api.Prim }{
		{plain(api.AddDir, "a"), plain(api.RmDir, "a")},
		{plain(api.RmDir, "a/b"), plain(api.AddDir, "a/b")},
		{plain(api.AddText, "a"), plain(api.RmText, "a")},
		{plain(api.RmText, "a/b"), plain(api.AddText, "a/b")},
		{plain(api.AddData, "a"), plain(api.RmData, "a")},
		{plain(api.RmData, "a/b"), plain(api.AddData, "a/b")},
		{linesOf("a", 0, x, yz), linesOf("a", 0, yz, x)},
		{linesOf("a", 5, nil, yz), linesOf("a", 5, yz, nil)},
		{linesOf("a", api.MaxAt, yz, nil), linesOf("a", api.MaxAt, nil, yz)},
		{linesOf("a", 1, x, x), linesOf("a", 1, x, x)},
		{linesOf("a", 1, []string{""}, []string{}), linesOf("a", 1, nil, []string{""})},
		{token("a", "x", "y"), token("a", "y", "x")},
		{bytesOf("a", "", "\x00\n"), bytesOf("a", "\x00\n", "")},
		{bytesOf("a", "x", ""), bytesOf("a", "", "x")},
		{moved("a", "b/c"), moved("b/c", "a")},
	} {
		if got := invert.Invert(c.p); !alikePatch(got, c.want) {
			t.Errorf("Invert(%s) is %s; want %s", show(c.p), show(got), show(c.want))
		}
		if got := invert.All([]api.Prim{c.p}); !alikeRow(got, []api.Prim{c.want}) {
			t.Errorf("All of %s is %s; want %s", show(c.p), show(got), show(c.want))
		}
	}
}

// TestCrowded has patches that are not right: what their kind does not name stays.
func TestCrowded(t *testing.T) {
	with := func(kind int, f func(p *api.Prim)) api.Prim {
		p := crowded(kind)
		f(&p)
		return p
	}
	for kind, want := range map[int]api.Prim{
		api.AddDir:  crowded(api.RmDir),
		api.RmDir:   crowded(api.AddDir),
		api.AddText: crowded(api.RmText),
		api.RmText:  crowded(api.AddText),
		api.AddData: crowded(api.RmData),
		api.RmData:  crowded(api.AddData),
		api.Lines:   with(api.Lines, func(p *api.Prim) { p.Old, p.New = []string{"new", "er"}, []string{"old"} }),
		api.Token:   with(api.Token, func(p *api.Prim) { p.From, p.To = "to", "from" }),
		api.Bytes:   with(api.Bytes, func(p *api.Prim) { p.From, p.To = "to", "from" }),
		api.Move:    with(api.Move, func(p *api.Prim) { p.Path, p.To = "to", "path" }),
	} {
		if got := invert.Invert(crowded(kind)); !alikePatch(got, want) {
			t.Errorf("kind %d: %s; want %s", kind, show(got), show(want))
		}
	}
}

// TestOtherKinds: whatever the fields are, nothing of them comes out.
func TestOtherKinds(t *testing.T) {
	for _, kind := range unnamed() {
		for _, p := range []api.Prim{crowded(kind), plain(kind, "a"), plain(kind, "")} {
			if got := invert.Invert(p); !alikePatch(got, api.Prim{}) {
				t.Errorf("Invert(%s) is %s", show(p), show(got))
			}
			if got := invert.All([]api.Prim{p, p}); !alikeRow(got, make([]api.Prim, 2)) {
				t.Errorf("All of %s twice is %s", show(p), show(got))
			}
		}
	}
}

// TestAllFields holds P9.1 and P9.3 against the words, whatever the fields are.
func TestAllFields(t *testing.T) {
	count := map[int]int{}
	allFields(func(p api.Prim) {
		got := invert.Invert(p)
		if want := invertByWords(p); !alikePatch(got, want) {
			t.Fatalf("Invert(%s) is %s; want %s", show(p), show(got), show(want))
		}
		if prim.Right(p) {
			count[p.Kind]++
			rightAndBack(t, p)
		}
	})
	for kind := api.AddDir; kind <= api.Move; kind++ {
		if count[kind] < 3 {
			t.Errorf("only %d of kind %d were right", count[kind], kind)
		}
	}
}

// rightAndBack asks P9.3 of a right patch.
func rightAndBack(t *testing.T, p api.Prim) {
	t.Helper()
	q := invert.Invert(p)
	if !prim.Right(q) {
		t.Fatalf("Invert(%s) is not right: %s", show(p), show(q))
	}
	if back := invert.Invert(q); !alikePatch(back, p) {
		t.Fatalf("Invert of Invert(%s) is %s", show(p), show(back))
	}
}

// TestRightEdges has right patches at the edges that layer 8 names.
func TestRightEdges(t *testing.T) {
	part := strings.Repeat("p", api.MaxPart)
	deep := strings.Repeat(part+"/", api.MaxDeep-1) + part
	l := []api.Prim{
		linesOf(deep, api.MaxAt, []string{""}, nil), linesOf("a", api.MaxAt, []string{}, []string{"\x00\xff\r", "é"}), linesOf("a", 0, []string{"x"}, []string{"x"}),
		token(deep, "_", strings.Repeat("z", 1<<16)), token("a", "A", "a"), token("a", "0", "00"),
		bytesOf(deep, "\n", "\x00\xff"), bytesOf("a", "", "x"), bytesOf("a", "x", ""),
		moved("a", deep), moved(deep, "a"), moved("a/b", "a/c"), moved("a", "ab"), moved("a/b", "a/b.c"),
		{Kind: api.Move, Path: "a", To: "b", Old: []string{}, New: []string{}},
	}
	for kind := api.AddDir; kind <= api.RmData; kind++ {
		l = append(l, plain(kind, deep), plain(kind, "..."), api.Prim{Kind: kind, Path: "a", Old: []string{}, New: []string{}})
	}
	for _, p := range l {
		if !prim.Right(p) {
			t.Fatalf("not right: %s", show(p))
		}
		rightAndBack(t, p)
	}
	if back := invert.All(invert.All(l)); !alikeRow(back, l) {
		t.Errorf("All of All is %s; want %s", show(back), show(l))
	}
}

func TestAll(t *testing.T) {
	for _, l := range [][]api.Prim{nil, {}} {
		if got := invert.All(l); len(got) != 0 {
			t.Errorf("All of none is %s", show(got))
		}
	}
	got := invert.All([]api.Prim{plain(api.AddDir, "a"), moved("a", "b"), {Kind: 11, Path: "c"}, linesOf("d", 2, []string{"x"}, nil)})
	want := []api.Prim{linesOf("d", 2, nil, []string{"x"}), {}, moved("b", "a"), plain(api.RmDir, "a")}
	if !alikeRow(got, want) {
		t.Errorf("All is %s; want %s", show(got), show(want))
	}
}

// TestAllOfMany has more than any patch may have changes.
func TestAllOfMany(t *testing.T) {
	var l []api.Prim
	for i := range 5000 {
		p := crowded(i % 13)
		p.Path, p.Old = strconv.Itoa(i), []string{strconv.Itoa(i)}
		l = append(l, p)
	}
	got := invert.All(l)
	if len(got) != len(l) {
		t.Fatalf("All of %d has %d", len(l), len(got))
	}
	for i, p := range l {
		if q := got[len(l)-1-i]; !alikePatch(q, invertByWords(p)) {
			t.Fatalf("at %d: %s; want Invert of %s", i, show(q), show(p))
		}
	}
}

// roomy are patches of all kinds, and of none, with spare room behind all lists; each kind once with one list as Old and New.
func roomy() []api.Prim {
	list := func(l ...string) []string {
		room := append(l, "spare", "spare", "spare")
		return room[:len(l)]
	}
	room := make([]api.Prim, 0, 50)
	for kind := -1; kind <= api.Move+1; kind++ {
		p := crowded(kind)
		p.Old, p.New = list("x", "y"), list()
		q := crowded(kind)
		q.Old = list("z")
		q.New = q.Old
		room = append(room, p, q)
	}
	return append(room, crowded(api.Move))[:len(room)]
}

// whole is patches, those in the room behind them too, with all room behind their lines.
func whole(l []api.Prim) []api.Prim {
	m := slices.Clone(l[:cap(l)])
	for i := range m {
		m[i].Old, m[i].New = slices.Clone(m[i].Old[:cap(m[i].Old)]), slices.Clone(m[i].New[:cap(m[i].New)])
	}
	return m
}

// spoil changes all of a list, and of its spare room.
func spoil(l []string) {
	for i := range l[:cap(l)] {
		l[:cap(l)][i] = "spoilt"
	}
}

// spoilAll changes all that can be reached from patches.
func spoilAll(l []api.Prim) {
	for i, p := range l[:cap(l)] {
		spoil(p.Old)
		spoil(p.New)
		l[:cap(l)][i] = api.Prim{Path: "spoilt"}
	}
}

// TestHandedIn: what is handed in stays as it was, its spare room too, whatever is done to what comes out.
func TestHandedIn(t *testing.T) {
	l := roomy()
	was := whole(l)
	for _, p := range l {
		spoilAll([]api.Prim{invert.Invert(p)})
	}
	for n := range l {
		spoilAll(invert.All(l[:n]))
	}
	spoilAll(invert.All(l))
	if !alikeRow(whole(l), was) {
		t.Errorf("%s became %s", show(was), show(whole(l)))
	}
}

// TestAnswersAreNew: what is done to what was handed in is not to be seen in an answer, and no two lists of it share memory.
func TestAnswersAreNew(t *testing.T) {
	l := roomy()
	want := make([]api.Prim, len(l))
	var single []api.Prim
	for i, p := range roomy() {
		want[len(l)-1-i] = invertByWords(p)
		single = append(single, invert.Invert(l[i]))
	}
	row := invert.All(l)
	spoilAll(l)
	slices.Reverse(single)
	for _, got := range [][]api.Prim{row, single} {
		for i := range got {
			if !alikePatch(got[i], want[i]) {
				t.Fatalf("at %d: %s; want %s", i, show(got[i]), show(want[i]))
			}
			spoil(got[i].Old)
			if !slices.Equal(got[i].New, want[i].New) {
				t.Fatalf("at %d: Old and New share memory", i)
			}
			spoil(got[i].New)
		}
	}
}
