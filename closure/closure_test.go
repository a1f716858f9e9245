package closure_test

import (
	"fmt"
	"slices"
	"strings"
	"testing"

	"counterpane/api"
	"counterpane/closure"
)

func words(l ...string) []string { return l }

// patch is one with that name, that stands on deps.
func patch(name string, deps ...string) api.Patch { return api.Patch{Name: name, Deps: deps} }

func patches(l ...api.Patch) []api.Patch { return l }

func changes(n int) []api.Prim { return slices.Repeat([]api.Prim{{Kind: api.AddDir, Path: "a"}}, n) }

// numbered are so many labels, rising.
func numbered(n int) []string {
	var l []string
	for i := range n {
		l = append(l, fmt.Sprintf("d.%03d", i))
	}
	return l
}

// row are patches of those names, each of which stands on some of those ahead of it.
func row(names []string, some func(ahead []string) []string) []api.Patch {
	var l []api.Patch
	for i, name := range names {
		l = append(l, patch(name, all(some(names[:i]))...))
	}
	return l
}

func every(ahead []string) []string { return ahead }

func last(ahead []string) []string { return ahead[max(0, len(ahead)-1):] }

func none([]string) []string { return nil }

func backward[T any](l []T) []T {
	l = slices.Clone(l)
	slices.Reverse(l)
	return l
}

// TestByHand has sets whose answers are written out; "!" is ErrLoop.
func TestByHand(t *testing.T) {
	for _, c := range []struct {
		l                   []api.Patch
		sorted, order, head string
	}{
		{nil, "", "", ""},
		{patches(patch("a")), "a", "a", "a"},
		{patches(patch("b"), patch("a", "b"), patch("c")), "a b c", "b a c", "a c"}, // the chapter's example
		{patches(patch("c"), patch("b"), patch("a")), "a b c", "a b c", "a b c"},
		{patches(patch("a", "b"), patch("b", "c"), patch("c")), "a b c", "c b a", "a"},
		{patches(patch("a", "d"), patch("b"), patch("c"), patch("d", "b")), "a b c d", "b c d a", "a c"},
		{patches(patch("b"), patch("a", "c"), patch("c")), "a b c", "b c a", "a b"},
		{patches(patch("c", "a", "b"), patch("d", "a", "b"), patch("b", "e"), patch("a"), patch("e")), "a b c d e", "a e b c d", "c d"},
		{patches(patch("a", "b"), patch("b", "a")), "a b", "!", ""},
		{patches(patch("a", "b"), patch("b", "a"), patch("c")), "a b c", "!", "c"},
		{patches(patch("a", "b"), patch("b", "c"), patch("c", "a"), patch("d", "a"), patch("0")), "0 a b c d", "!", "0 d"},
		{patches(patch("a", "x")), "a", "!", "a"},
		{patches(patch("a", "x"), patch("b", "a"), patch("c", "x")), "a b c", "!", "b c"},
		{patches(patch("aa"), patch("a"), patch("a-"), patch("a.", "aa"), patch("a0"), patch("-"), patch("9"), patch(".")), "- . 9 a a- a. a0 aa", "- . 9 a a- a0 aa a.", "- . 9 a a- a. a0"},
	} {
		for _, l := range [][]api.Patch{c.l, backward(c.l)} {
			sorted, e := closure.Sorted(l)
			same(t, "Sorted", l, namesOf(sorted), e, strings.Fields(c.sorted), api.OK)
			heads, e := closure.Heads(l)
			same(t, "Heads", l, heads, e, strings.Fields(c.head), api.OK)
			order, e := closure.Order(l)
			if c.order == "!" {
				same(t, "Order", l, order, e, nil, api.ErrLoop)
			} else {
				same(t, "Order", l, order, e, strings.Fields(c.order), api.OK)
			}
			ask(t, l)
		}
	}
}

// ground is a set of which some stand on one another, and some on what is not there.
func ground() []api.Patch {
	return patches(patch("f", "d", "e"), patch("e", "b"), patch("d", "b", "c"), patch("c", "a"), patch("b", "a"), patch("a"), patch("g"),
		patch("l", "m"), patch("m", "n"), patch("n", "a", "l"), patch("o", "n"),
		patch("s", "x"), patch("t", "a", "s"), patch("u", "f", "y"))
}

// TestDownAndUpByHand has answers that are written out; "!" is ErrNone.
func TestDownAndUpByHand(t *testing.T) {
	for _, c := range []struct{ names, down, up string }{
		{"", "", ""},
		{"a", "a", "a b c d e f l m n o t u"},
		{"b", "a b", "b d e f u"},
		{"c", "a c", "c d f u"},
		{"d", "a b c d", "d f u"},
		{"e", "a b e", "e f u"},
		{"f", "a b c d e f", "f u"},
		{"g", "g", "g"},
		{"g g g", "g", "g"},
		{"f a g f", "a b c d e f g", "a b c d e f g l m n o t u"},
		{"e c", "a b c e", "c d e f u"},
		{"l", "a l m n", "l m n o"},
		{"m", "a l m n", "l m n o"},
		{"n g", "a g l m n", "g l m n o"},
		{"o", "a l m n o", "o"},
		{"s", "!", "s t"},
		{"t", "!", "t"},
		{"a t", "!", "a b c d e f l m n o t u"},
		{"u", "!", "u"},
		{"x", "!", "!"},
		{"y", "!", "!"},
		{"a x", "!", "!"},
		{"x a", "!", "!"},
		{"s x", "!", "!"},
		{"z", "!", "!"},
		{"A", "!", "!"},
	} {
		names := strings.Fields(c.names)
		for _, l := range [][]api.Patch{ground(), backward(ground())} {
			got, e := closure.Down(l, names)
			written(t, "Down of "+c.names, l, got, e, c.down)
			got, e = closure.Up(l, names)
			written(t, "Up of "+c.names, l, got, e, c.up)
			askOf(t, l, names...)
			askOf(t, l, backward(names)...)
		}
	}
}

// written asks for the names that are written out, or for ErrNone alone, if that is "!".
func written(t *testing.T, what string, l []api.Patch, got []string, e api.Errno, want string) {
	t.Helper()
	if want == "!" {
		same(t, what, l, got, e, nil, api.ErrNone)
		return
	}
	same(t, what, l, got, e, strings.Fields(want), api.OK)
}

// TestWrongNames: each is no name of whatever set, wherever it stands among others.
func TestWrongNames(t *testing.T) {
	for _, wrong := range []string{"", "A", "a ", "a\n", "a/b", "\x00", "\xff", strings.Repeat("a", 25), strings.Repeat("a", 1000)} {
		for _, names := range [][]string{{wrong}, {"a", wrong}, {wrong, "a"}, {"f", wrong, "f"}, {"s", wrong}, {wrong, "s"}} {
			if e := askOf(t, ground(), names...); e != api.ErrNone {
				t.Errorf("Down of %q is %d", names, e)
			}
			if got, e := closure.Up(ground(), names); e != api.ErrNone || len(got) != 0 {
				t.Errorf("Up of %q is %q, %d", names, got, e)
			}
		}
		if e := askOf(t, nil, wrong); e != api.ErrNone {
			t.Errorf("Down of %q in no patches is %d", wrong, e)
		}
	}
}

// wrongSets are patches that are no set, each for one reason.
func wrongSets() [][]api.Patch {
	many := row(numbered(api.MaxPatches+1), none)
	l := [][]api.Patch{
		many, row(numbered(api.MaxPatches+1), last), row(numbered(1000), none), slices.Repeat(patches(patch("a")), 5000),
		{patch("a"), patch("a")},
		{patch("a"), patch("b"), patch("a", "b")},
		{patch("b", "a"), patch("a"), patch("c"), patch("b", "a")},
		{patch("a", "b"), patch("b", "a"), patch("a")},
		append(many[:api.MaxPatches-1:api.MaxPatches-1], many[0]),
	}
	for _, p := range []api.Patch{
		{}, patch(""), patch("A"), patch("a/b"), patch(strings.Repeat("a", 25)), {Name: "", Body: changes(1)},
		patch("q", ""), patch("q", "A"), patch("q", strings.Repeat("b", 25)), patch("q", "q"), patch("q", "b", "b"), patch("q", "c", "b"), patch("q", numbered(api.MaxDeps+1)...),
		{Name: "q", Body: changes(api.MaxBody + 1)}, {Name: "q", Body: make([]api.Prim, 1)}, {Name: "q", Body: append(changes(9), api.Prim{Kind: 11, Path: "a"})},
		{Name: "q", Body: []api.Prim{{Kind: api.Lines, Path: "a", At: -1, New: words("x")}}}, {Name: "q", Body: []api.Prim{{Kind: -1 << 63, Path: "a"}}},
	} {
		l = append(l, patches(p), patches(patch("b"), patch("c"), p), patches(p, patch("b", "c"), patch("c", "b")), append(row(numbered(api.MaxPatches-1), every), p))
	}
	return l
}

// TestNoSets: ErrArg is ahead of all other errors, and alone.
func TestNoSets(t *testing.T) {
	for _, l := range wrongSets() {
		for _, l := range [][]api.Patch{l, backward(l)} {
			if e := ask(t, l); e != api.ErrArg {
				t.Errorf("Order of %s is %d", show(l), e)
			}
			for _, names := range [][]string{nil, {"a"}, {"b"}, {"d.000"}, {"none"}, {""}, namesOf(l)} {
				if e := askOf(t, l, names...); e != api.ErrArg {
					t.Errorf("Down of %q in %s is %d", names, show(l), e)
				}
			}
		}
	}
}

// TestEdges has sets at the edges of what may be.
func TestEdges(t *testing.T) {
	names := numbered(api.MaxPatches)
	loop := row(names, last)
	loop[0].Deps = names[255:]
	open := row(names, last)
	open[0].Deps = words("x")
	others := numbered(api.MaxDeps + 1)
	everyOther := append(row(others[1:], none)[:255], patch(others[256], others[:256]...))
	for _, c := range []struct {
		l     []api.Patch
		order api.Errno
	}{
		{row(names, none), api.OK}, {row(names, last), api.OK}, {row(backward(names), last), api.OK}, {row(names, every), api.OK}, {row(backward(names), every), api.OK},
		{row(names, func(ahead []string) []string { return ahead[len(ahead)/2:] }), api.OK},
		{row(backward(names), func(ahead []string) []string { return ahead[:min(1, len(ahead))] }), api.OK},
		{loop, api.ErrLoop}, {open, api.ErrLoop}, {everyOther, api.ErrLoop},
		{patches(patch(strings.Repeat("a", 24)), patch(strings.Repeat("a", 23), strings.Repeat("a", 24))), api.OK},
		{patches(patch("a", others[:256]...)), api.ErrLoop},
		{patches(api.Patch{Name: "a", Body: changes(api.MaxBody)}, api.Patch{Name: "b", Deps: words("a"), Body: []api.Prim{{Kind: api.Lines, Path: "a", Old: words("", "x"), New: words("y")}}}), api.OK},
	} {
		for _, l := range [][]api.Patch{c.l, backward(c.l)} {
			if e := ask(t, l); e != c.order {
				t.Errorf("Order of %s is %d", show(l), e)
			}
			askOf(t, l)
			askOf(t, l, l[0].Name)
			askOf(t, l, l[len(l)/2].Name, l[len(l)-1].Name)
			askOf(t, l, namesOf(l)...)
			askOf(t, l, append(namesOf(l), "x")...)
		}
	}
}

// TestManyNames: there may be more names than patches.
func TestManyNames(t *testing.T) {
	names := slices.Repeat(words("f", "b", "g", "b"), 100000)
	l, wrong := ground(), append(slices.Clone(names), "z")
	got, e := closure.Down(l, names)
	written(t, "Down of many", l, got, e, "a b c d e f g")
	got, e = closure.Down(l, wrong)
	written(t, "Down of many and z", l, got, e, "!")
	got, e = closure.Up(l, names)
	written(t, "Up of many", l, got, e, "b d e f g u")
	got, e = closure.Up(l, wrong)
	written(t, "Up of many and z", l, got, e, "!")
}
