package tree_test

import (
	"crypto/sha256"
	"encoding/hex"
	"fmt"
	"math/rand"
	"regexp"
	"slices"
	"strconv"
	"strings"
	"testing"

	"counterpane/api"
	"counterpane/tree"
)

// pathForm is what layer 4 says of a path, but for the parts that are dots alone.
var pathForm = regexp.MustCompile(`\A[a-z0-9._-]{1,16}(/[a-z0-9._-]{1,16}){0,7}\z`)

func dir(p string) api.Entry { return api.Entry{Path: p, Kind: api.KindDir} }

func text(p string, l ...string) api.Entry {
	return api.Entry{Path: p, Kind: api.KindText, Lines: l}
}

func data(p, b string) api.Entry { return api.Entry{Path: p, Kind: api.KindData, Data: b} }

// some is a tree with things of all kinds; by bytes `a-b` stands ahead of `a/c`, and `a.` too.
func some() []api.Entry {
	return []api.Entry{
		dir("a"), data("a-b", "\x00"), text("a."), text("a/c", "x", ""), dir("a/d"), data("a/d/e", "\n"), dir("a0"), text("a0/c", "x", ""), data("b", ""), text("c", "\x00\xff\r", "é"),
	}
}

// nameOf is told here once more, by the library's SHA-256.
func nameOf(s string) string {
	sum := sha256.Sum256([]byte(s))
	return hex.EncodeToString(sum[:])
}

func rightPath(p string) bool {
	parts := strings.Split(p, "/")
	return pathForm.MatchString(p) && !slices.Contains(parts, ".") && !slices.Contains(parts, "..")
}

// rightByWords is the chapter's section 'Types', word by word.
func rightByWords(l []api.Entry) bool {
	right := len(l) <= api.MaxEntries
	for i, x := range l {
		right = right && rightPath(x.Path) && x.Kind >= 1 && x.Kind <= 3
		right = right && (i == 0 || l[i-1].Path < x.Path)
		right = right && !strings.Contains(strings.Join(x.Lines, ""), "\n")
		right = right && (len(x.Lines) == 0 || x.Kind == 2) && (len(x.Data) == 0 || x.Kind == 3)
		if at := strings.LastIndexByte(x.Path, '/'); at >= 0 {
			right = right && slices.ContainsFunc(l, func(y api.Entry) bool { return y.Path == x.Path[:at] && y.Kind == 1 })
		}
	}
	return right
}

// keptByWords is what is kept of the directory at a path (of the tree, if that is nothing), and ahead of it of all that lies in it, in G2's order.
func keptByWords(l []api.Entry, at string) []string {
	var parts []string
	in := map[string]api.Entry{}
	for _, x := range l {
		if i := strings.LastIndexByte(x.Path, '/'); i < 0 && at == "" || i >= 0 && x.Path[:i] == at {
			in[x.Path[i+1:]] = x
			parts = append(parts, x.Path[i+1:])
		}
	}
	slices.Sort(parts)
	var all []string
	own := "d"
	for _, part := range parts {
		switch x := in[part]; x.Kind {
		case 1:
			all = append(all, keptByWords(l, x.Path)...)
		case 2:
			ended := append(slices.Clone(x.Lines), "")
			all = append(all, "t"+strings.Join(ended, "\x0a"))
		case 3:
			all = append(all, "b"+x.Data)
		}
		own += fmt.Sprintf("%d %s %s\n", in[part].Kind, part, nameOf(all[len(all)-1]))
	}
	return append(all, own)
}

// treeName is what a tree's name must be.
func treeName(l []api.Entry) string {
	all := keptByWords(l, "")
	return nameOf(all[len(all)-1])
}

func alikeThing(x, y api.Entry) bool {
	return x.Path == y.Path && x.Kind == y.Kind && x.Data == y.Data && slices.Equal(x.Lines, y.Lines)
}

func alike(l, m []api.Entry) bool { return slices.EqualFunc(l, m, alikeThing) }

// copyOf shares nothing with l.
func copyOf(l []api.Entry) []api.Entry {
	m := slices.Clone(l)
	for i := range m {
		m[i].Lines = slices.Clone(m[i].Lines)
	}
	return m
}

// show tells things, at least their beginning.
func show(what any) string { return fmt.Sprintf("%.300s", fmt.Sprintf("%+v", what)) }

// chain is directories in one another, n deep, and what lies in the last.
func chain(n int, more ...api.Entry) []api.Entry {
	var l []api.Entry
	p := ""
	for range n {
		p += "d"
		l = append(l, dir(p))
		p += "/"
	}
	for _, x := range more {
		x.Path = p + x.Path
		l = append(l, x)
	}
	return l
}

// many is n empty texts.
func many(n int) []api.Entry {
	var l []api.Entry
	for i := range n {
		l = append(l, text(fmt.Sprintf("f%07d", i)))
	}
	return l
}

// lot is a tree of about n things, chosen by r.
func lot(r *rand.Rand, n int) []api.Entry {
	parts := []string{"a", "b", "a.b", "a-", "a_", "ab", "0", "-", "._.", "...", "sixteen.letters_"}
	texts := [][]string{nil, {}, {""}, {"", ""}, {"x"}, {"x", "y"}, {"\x00", "\xff\r", "d", "é"}}
	bytes := []string{"", "x", "\n", "x\n", "d", "t", "b", "\x00\xff"}
	there := map[string]api.Entry{}
	dirs := []string{""}
	for range n {
		in := dirs[r.Intn(len(dirs))]
		x := api.Entry{Path: in + parts[r.Intn(len(parts))], Kind: 1 + r.Intn(3)}
		if _, is := there[x.Path]; is || strings.Count(x.Path, "/") >= api.MaxDeep {
			continue
		}
		switch x.Kind {
		case 1:
			dirs = append(dirs, x.Path+"/")
		case 2:
			x.Lines = slices.Clone(texts[r.Intn(len(texts))])
		case 3:
			x.Data = bytes[r.Intn(len(bytes))]
		}
		there[x.Path] = x
	}
	var l []api.Entry
	for _, x := range there {
		l = append(l, x)
	}
	slices.SortFunc(l, func(x, y api.Entry) int { return strings.Compare(x.Path, y.Path) })
	return l
}

// trees are many, of all sizes.
func trees() [][]api.Entry {
	l := [][]api.Entry{nil, {}, some(), chain(api.MaxDeep), chain(api.MaxDeep-1, text("t", "x")), {text("t", "x")}, {data("t", "x\n")}, {dir("t")}}
	r := rand.New(rand.NewSource(7))
	for i := range 400 {
		l = append(l, lot(r, i))
	}
	return l
}

// noTrees are lists that are none, each of them by one fault.
func noTrees() map[string][]api.Entry {
	long := strings.Repeat("p", api.MaxPart+1)
	return map[string][]api.Entry{
		"one too many":             many(api.MaxEntries + 1),
		"very many":                many(1 << 18),
		"no path":                  {dir("")},
		"a slash":                  {dir("/")},
		"a slash ahead":            {dir("/a")},
		"a slash behind":           {dir("a"), dir("a/")},
		"two slashes":              {dir("a"), dir("a//b")},
		"a dot":                    {dir(".")},
		"two dots":                 {dir(".."), text("../a")},
		"two dots below":           {dir("a"), dir("a/..")},
		"a long part":              {dir(long)},
		"a great letter":           {dir("A")},
		"a byte of no rune":        {dir("\xff")},
		"a blank":                  {dir("a b")},
		"a byte 10":                {dir("a\n")},
		"a directory too deep":     chain(api.MaxDeep + 1),
		"a text too deep":          chain(api.MaxDeep, text("t")),
		"data too deep":            chain(api.MaxDeep, data("t", "")),
		"falling":                  {dir("b"), dir("a")},
		"twice":                    {dir("a"), dir("a")},
		"twice, of unlike kinds":   {dir("a"), text("a")},
		"falling by bytes":         {dir("a"), text("a/c"), text("a-b")},
		"falling at the end":       {dir("a"), text("b"), text("a0")},
		"a child ahead":            {text("a/b"), dir("a")},
		"no kind":                  {{Path: "a"}},
		"a kind below":             {{Path: "a", Kind: -1}},
		"a kind above":             {{Path: "a", Kind: 4}},
		"a kind far above":         {{Path: "a", Kind: 1 << 32}, {Path: "b", Kind: 1<<32 + 1}},
		"a line with an end":       {text("a", "x\n")},
		"a line that is an end":    {text("a", "x", "\n", "y")},
		"the last line's end":      {text("a", "x", "y\n")},
		"a directory with lines":   {{Path: "a", Kind: 1, Lines: []string{"x"}}},
		"a directory with a line":  {{Path: "a", Kind: 1, Lines: []string{""}}},
		"a directory with data":    {{Path: "a", Kind: 1, Data: "x"}},
		"a text with data":         {{Path: "a", Kind: 2, Lines: []string{"x"}, Data: "x"}},
		"an empty text with data":  {{Path: "a", Kind: 2, Data: "\x00"}},
		"data with lines":          {{Path: "a", Kind: 3, Lines: []string{"x"}, Data: "x"}},
		"data with an empty line":  {{Path: "a", Kind: 3, Lines: []string{""}}},
		"no parent":                {text("a/b")},
		"no parent, others":        {dir("a"), dir("b"), text("c/d")},
		"no parent's parent":       {dir("a/b"), text("a/b/c")},
		"no parent between":        {dir("a"), text("a/b/c")},
		"a text for a parent":      {text("a"), text("a/b")},
		"data for a parent":        {data("a", ""), text("a/b")},
		"a parent that begins it":  {dir("a"), text("ab/c")},
		"a wrong one that is last": append(some(), dir("z/z")),
	}
}

func TestRightAndWrong(t *testing.T) {
	for what, l := range noTrees() {
		if rightByWords(l) || tree.Right(l) {
			t.Errorf("%s: right", what)
		}
		if name, e := tree.Name(l); name != "" || e != api.ErrArg {
			t.Errorf("%s: Name is %q, %d", what, name, e)
		}
	}
	for _, l := range append(trees(), many(api.MaxEntries)) {
		if !rightByWords(l) || !tree.Right(l) {
			t.Errorf("not right: %s", show(l))
		}
	}
}

// TestRightHasRoom: the edges from within.
func TestRightHasRoom(t *testing.T) {
	part := strings.Repeat("p", api.MaxPart)
	var deepest []api.Entry
	for n := range api.MaxDeep {
		deepest = append(deepest, dir(strings.Repeat(part+"/", n)+part))
	}
	for i, l := range [][]api.Entry{
		deepest, {{Path: "a", Kind: 1, Lines: []string{}}}, {{Path: "a", Kind: 3, Lines: []string{}, Data: "x"}}, {text("a", "")}, {text("..."), text(".a"), text("_"), text("a")},
		{dir("a"), text("a-"), text("a."), text("a/b"), text("a0"), text("a_"), text("aa")}, {data("a", strings.Repeat("\n", 1<<20))}, {text("a", strings.Repeat("x", 1<<20))},
	} {
		if !tree.Right(l) {
			t.Errorf("%d: not right", i)
		}
	}
}

// TestShortLists has all lists of up to three things out of some that are right and some that are wrong.
func TestShortLists(t *testing.T) {
	of := []api.Entry{
		dir("a"), text("a"), data("a", "x"), dir("a-"), dir("a/b"), text("a/b", "x"), dir("a/b/c"), text("ab/c"), text("a0", "x\n"), {Path: "b", Kind: 4}, {}, text("a/b/"), {Path: "c", Kind: 1, Data: "x"}, {Path: "c", Kind: 3, Lines: []string{""}}, text("c", "", "x"),
	}
	right := 0
	lists := [][]api.Entry{nil}
	for n := 0; n < 3; n++ {
		var longer [][]api.Entry
		for _, l := range lists {
			for _, x := range of {
				longer = append(longer, append(slices.Clone(l), x))
			}
		}
		lists = longer
		for _, l := range lists {
			want := rightByWords(l)
			if tree.Right(l) != want {
				t.Fatalf("Right is not %v: %s", want, show(l))
			}
			name, e := tree.Name(l)
			if want {
				right++
				if name != treeName(l) || e != api.OK {
					t.Fatalf("Name is %q, %d: %s", name, e, show(l))
				}
			} else if name != "" || e != api.ErrArg {
				t.Fatalf("Name is %q, %d: %s", name, e, show(l))
			}
		}
	}
	if right < 20 {
		t.Fatalf("only %d were trees", right)
	}
}

func TestFind(t *testing.T) {
	l := some()
	for _, x := range l {
		if y, is := tree.Find(l, x.Path); !is || !alikeThing(x, y) {
			t.Errorf("Find of %q is %s, %v", x.Path, show(y), is)
		}
	}
	for _, p := range []string{"", "/", "a/", "/a", "A", "a/c/x", "d", "a-", "a/b", "aa", "a/d/e/", "a//c", ".", "a/../b", "\xff", "b\n"} {
		if y, is := tree.Find(l, p); is || !alikeThing(y, api.Entry{}) {
			t.Errorf("Find of %q is %s, %v", p, show(y), is)
		}
		if y, is := tree.Find(nil, p); is || !alikeThing(y, api.Entry{}) {
			t.Errorf("Find of %q in none is %s, %v", p, show(y), is)
		}
	}
}

// TestFindInNoTree: the first is told, in whatever order they are, and whatever they have.
func TestFindInNoTree(t *testing.T) {
	l := []api.Entry{text("b", "1"), {Path: "a", Kind: 9, Lines: []string{"\n"}, Data: "x"}, {}, text("b", "2"), {Path: "", Data: "x"}, {Path: "/", Kind: -1}, data("a", "2")}
	for p, at := range map[string]int{"b": 0, "a": 1, "": 2, "/": 5} {
		if y, is := tree.Find(l, p); !is || !alikeThing(y, l[at]) {
			t.Errorf("Find of %q is %s, %v", p, show(y), is)
		}
	}
}

func TestNameByHand(t *testing.T) {
	empty := nameOf("d")
	for _, c := range []struct {
		l    []api.Entry
		kept string
	}{
		{nil, "d"},
		{[]api.Entry{}, "d"},
		{[]api.Entry{dir("a")}, "d1 a " + empty + "\n"},
		{[]api.Entry{text("a")}, "d2 a " + nameOf("t") + "\n"},
		{[]api.Entry{text("a", "")}, "d2 a " + nameOf("t\n") + "\n"},
		{[]api.Entry{text("a", "x", "y")}, "d2 a " + nameOf("tx\ny\n") + "\n"},
		{[]api.Entry{data("a", "")}, "d3 a " + nameOf("b") + "\n"},
		{[]api.Entry{data("a", "x\n")}, "d3 a " + nameOf("bx\n") + "\n"},
		{[]api.Entry{dir("a"), text("a/b", "x")}, "d1 a " + nameOf("d2 b "+nameOf("tx\n")+"\n") + "\n"},
		{[]api.Entry{dir("a"), text("a-b"), dir("a/d"), data("b", "x")}, "d1 a " + nameOf("d1 d "+empty+"\n") + "\n2 a-b " + nameOf("t") + "\n3 b " + nameOf("bx") + "\n"},
	} {
		if name, e := tree.Name(c.l); name != nameOf(c.kept) || e != api.OK {
			t.Errorf("Name of %s is %q, %d", show(c.l), name, e)
		}
	}
	if name, _ := tree.Name(nil); name != "18ac3e7343f016890c510e93f935261169d9e3f565436429830faf0934f4f8e4" {
		t.Errorf("the empty tree is %q", name)
	}
}

// TestNames: unlike trees have unlike names, which are those that the words make.
func TestNames(t *testing.T) {
	seen := map[string][]api.Entry{}
	for _, l := range trees() {
		name, e := tree.Name(l)
		if name != treeName(l) || e != api.OK {
			t.Fatalf("Name of %s is %q, %d", show(l), name, e)
		}
		if m, is := seen[name]; is && !alike(l, m) {
			t.Fatalf("%s and %s have one name", show(l), show(m))
		}
		seen[name] = l
	}
	if len(seen) < 350 {
		t.Fatalf("only %d were unlike", len(seen))
	}
}

// TestNameOfMuch: a tree has a name, too, if no disk can keep it.
func TestNameOfMuch(t *testing.T) {
	for i, l := range [][]api.Entry{many(api.MaxEntries), {text("a", make([]string, api.MaxFile)...)}, {data("a", strings.Repeat("x", 1<<20))}} {
		if name, e := tree.Name(l); name != treeName(l) || e != api.OK {
			t.Errorf("%d: %q, %d", i, name, e)
		}
	}
}

// TestListsHandedIn: they, what lies in them, and their spare room stay as they were.
func TestListsHandedIn(t *testing.T) {
	for _, call := range []func([]api.Entry){
		func(l []api.Entry) { tree.Right(l) },
		func(l []api.Entry) { tree.Find(l, "a/c") },
		func(l []api.Entry) { tree.Name(l) },
		func(l []api.Entry) { tree.Save(roomy(), l) },
	} {
		for cut := range 3 {
			room := append(some(), text("y", "spare"), dir("z"))
			for i := range room {
				room[i].Lines = append(make([]string, 0, 8), room[i].Lines...)
				spare := room[i].Lines[:8]
				spare[7] = "spare " + strconv.Itoa(i)
			}
			was := copyOf(room)
			call(room[:len(room)-2-cut])
			if !alike(room, was) {
				t.Fatalf("%s became %s", show(was), show(room))
			}
			for i := range room {
				if spare := room[i].Lines[:8]; spare[7] != "spare "+strconv.Itoa(i) {
					t.Fatalf("spare room of %d became %q", i, spare[7])
				}
			}
		}
	}
}

// TestFoundLinesAreNew: what is done to them, or to their spare room, is not to be seen in the list.
func TestFoundLinesAreNew(t *testing.T) {
	l := some()
	l[3].Lines = append(make([]string, 0, 9), l[3].Lines...)
	was := copyOf(l)
	x, _ := tree.Find(l, "a/c")
	for i := range x.Lines[:cap(x.Lines)] {
		x.Lines[:cap(x.Lines)][i] = "changed"
	}
	if !alike(l, was) || slices.Contains(l[3].Lines[:9], "changed") {
		t.Fatalf("%s became %s", show(was), show(l))
	}
	l[3].Lines = l[3].Lines[:0]
	x, _ = tree.Find(l, "a/c")
	if cap(x.Lines) > 0 {
		x.Lines[:1][0] = "changed"
	}
	if slices.Contains(l[3].Lines[:9], "changed") {
		t.Fatal("spare room of empty lines is shared")
	}
}
