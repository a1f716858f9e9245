package inventory_test

import (
	"fmt"
	"slices"
	"strings"
	"testing"

	"counterpane/api"
	"counterpane/inventory"
)

func words(l ...string) []string { return l }

// tag is one of a name, and names that it stands on behind it.
func tag(names string) api.Patch {
	l := strings.Fields(names)
	return api.Patch{Name: l[0], Deps: l[1:]}
}

// patch is one likewise, that changes something.
func patch(names string) api.Patch {
	p := tag(names)
	p.Body = changes(1)
	return p
}

func patches(l ...api.Patch) []api.Patch { return l }

func changes(n int) []api.Prim { return slices.Repeat([]api.Prim{{Kind: api.AddDir, Path: "a"}}, n) }

// numbered are so many labels, rising.
func numbered(n int) []string {
	var l []string
	for i := range n {
		l = append(l, fmt.Sprintf("d.%03d", i))
	}
	return l
}

// row are tags of those names, each of which stands on some of those ahead of it.
func row(names []string, some func(ahead []string) []string) []api.Patch {
	var l []api.Patch
	for i, name := range names {
		deps := slices.Sorted(slices.Values(some(names[:i])))
		l = append(l, api.Patch{Name: name, Deps: deps})
	}
	return l
}

func every(ahead []string) []string { return ahead }

func last(ahead []string) []string { return ahead[max(0, len(ahead)-1):] }

func none([]string) []string { return nil }

func backward[T any](l []T) []T {
	l = slices.Clone(l)
	slices.Reverse(l)
	return l
}

// told are the names of what a call answers, or its error.
func told(l []api.Patch, e api.Errno) string { return toldNames(namesOf(l), e) }

func toldNames(l []string, e api.Errno) string {
	if e == api.OK {
		return strings.Join(l, " ")
	}
	return strings.Join(append(l, fmt.Sprintf("!%d", e)), " ")
}

func toldName(s string, e api.Errno) string { return toldNames(strings.Fields(s), e) }

func written(t *testing.T, what, got, want string) {
	t.Helper()
	if got != want {
		t.Errorf("%s is %q; want %q", what, got, want)
	}
}

// ground has tags (those of t) and patches; l, m and n stand on one another, and x is not there.
func ground() []api.Patch {
	return patches(patch("f d e"), patch("e b"), patch("d b c"), patch("c a"), patch("b a"), patch("a"), patch("g"),
		tag("t1 a"), tag("t2 b c"), tag("t3 b t1"), tag("t4 d"), tag("t5"), tag("t6 a"), tag("t7 t4 t5"), tag("t8 x"), tag("t9 t8"),
		patch("l n"), patch("m l"), tag("n m"), tag("tn n"))
}

// TestNewestByHand has answers that are written out.
func TestNewestByHand(t *testing.T) {
	for _, c := range []struct{ have, want string }{
		{"", ""},
		{"a", ""},
		{"a b c d e f g", ""},
		{"z", ""},
		{"t1", "t1"},
		{"t5", "t5"},
		{"t5 t1", "t1"},
		{"t6 t1", "t1"}, // of several with as many the least
		{"t1 t6", "t1"},
		{"t5 t6", "t6"},
		{"t2 t3", "t2"}, // both have four
		{"t3 t1", "t3"},
		{"t4 t2 t3 t1", "t4"},
		{"t7 t4", "t7"},
		{"a b c d t5 f g t6 z t1 t1", "t1"},
		{"t8", ""}, // its Down cannot be told
		{"t9", ""},
		{"t9 t5 t8", "t5"},
		{"n", "n"}, // it stands on itself, through others
		{"n t1", "n"},
		{"n tn", "tn"},
		{"tn t2", "t2"}, // both have four
		{"t1 t2 t3 t4 t5 t6 t7 t8 t9 n tn", "t7"},
		{"T1", ""},
		{"t", ""},
		{"t1.", ""},
	} {
		for _, l := range [][]api.Patch{ground(), backward(ground())} {
			for _, have := range [][]string{strings.Fields(c.have), backward(strings.Fields(c.have))} {
				written(t, "Newest of "+c.have, toldName(inventory.Newest(l, have)), c.want)
				askNewest(t, l, have...)
			}
		}
	}
}

// TestSinceByHand has answers that are written out; "!12" is ErrNone.
func TestSinceByHand(t *testing.T) {
	for _, c := range []struct{ tag, want string }{
		{"", "a b c d e f g l m n t1 t2 t3 t4 t5 t6 t7 t8 t9 tn"},
		{"t1", "b c d e f g l m n t2 t3 t4 t5 t6 t7 t8 t9 tn"},
		{"t5", "a b c d e f g l m n t1 t2 t3 t4 t6 t7 t8 t9 tn"},
		{"t7", "e f g l m n t1 t2 t3 t6 t8 t9 tn"},
		{"t3", "c d e f g l m n t2 t4 t5 t6 t7 t8 t9 tn"},
		{"tn", "a b c d e f g t1 t2 t3 t4 t5 t6 t7 t8 t9"},
		{"f", "g l m n t1 t2 t3 t4 t5 t6 t7 t8 t9 tn"}, // any patch may be asked, as Down may
		{"m", "a b c d e f g t1 t2 t3 t4 t5 t6 t7 t8 t9 tn"},
		{"t8", "!12"},
		{"t9", "!12"},
		{"x", "!12"},
		{"z", "!12"},
		{"T1", "!12"},
		{" ", "!12"},
		{"t1 t2", "!12"},
		{strings.Repeat("t", 1000), "!12"},
	} {
		for _, l := range [][]api.Patch{ground(), backward(ground())} {
			written(t, "Since "+c.tag, toldNames(inventory.Since(l, c.tag)), c.want)
			askSince(t, l, c.tag)
		}
	}
}

// TestWantsByHand has answers that are written out; "!12" is ErrNone.
func TestWantsByHand(t *testing.T) {
	for _, c := range []struct{ have, names, want string }{
		{"", "", ""},
		{"a b", "", ""},
		{"", "a", "a"},
		{"a", "a", ""},
		{"", "f", "a b c d e f"},
		{"a", "f", "b c d e f"},
		{"b d", "f", "a c e f"}, // what is had need not be closed
		{"f", "f", "a b c d e"},
		{"a b c d e f", "f", ""},
		{"z x g", "d", "a b c d"},
		{"a a b a", "c d c", "c d"},
		{"b", "t5 e g", "a e g t5"},
		{"", "m", "l m n"},
		{"n", "m", "l m"},
		{"", "t8", "!12"},
		{"t8 x", "t8", "!12"},
		{"", "a t9", "!12"},
		{"", "z", "!12"},
		{"z", "a z", "!12"},
		{"", "z a", "!12"},
		{"", "A", "!12"},
	} {
		for _, l := range [][]api.Patch{ground(), backward(ground())} {
			have, names := strings.Fields(c.have), strings.Fields(c.names)
			written(t, "Wants of "+c.names+", who has "+c.have, told(inventory.Wants(l, have, names)), c.want)
			askWants(t, l, have, names)
			askWants(t, l, backward(have), backward(names))
		}
	}
	// The chapter's example.
	l := patches(patch("a"), patch("b a"), patch("c"))
	written(t, "Wants", told(inventory.Wants(l, words("a"), words("b"))), "b")
	written(t, "Wants", told(inventory.Wants(nil, words("a"), nil)), "")
	written(t, "Wants", told(inventory.Wants(nil, words("a"), words("a"))), "!12")
}

// TestWithoutByHand has answers that are written out; "!12" is ErrNone.
func TestWithoutByHand(t *testing.T) {
	all := "a b c d e f g l m n t1 t2 t3 t4 t5 t6 t7 t8 t9 tn"
	for _, c := range []struct{ names, want string }{
		{"", all},
		{"a", "g l m n t5 t8 t9 tn"},
		{"b", "a c g l m n t1 t5 t6 t8 t9 tn"},
		{"f", "a b c d e g l m n t1 t2 t3 t4 t5 t6 t7 t8 t9 tn"},
		{"g g", "a b c d e f l m n t1 t2 t3 t4 t5 t6 t7 t8 t9 tn"},
		{"c t1", "a b e g l m n t5 t6 t8 t9 tn"},
		{"t8", "a b c d e f g l m n t1 t2 t3 t4 t5 t6 t7 tn"}, // Up asks nothing of what it stands on
		{"l", "a b c d e f g t1 t2 t3 t4 t5 t6 t7 t8 t9"},
		{all, ""},
		{"x", "!12"},
		{"a z", "!12"},
		{"z a", "!12"},
		{"A", "!12"},
	} {
		for _, l := range [][]api.Patch{ground(), backward(ground())} {
			names := strings.Fields(c.names)
			written(t, "Without "+c.names, told(inventory.Without(l, names)), c.want)
			askWithout(t, l, names...)
			askWithout(t, l, backward(names)...)
		}
	}
	written(t, "Without", told(inventory.Without(nil, nil)), "")
	written(t, "Without", told(inventory.Without(nil, words("a"))), "!12")
}

// TestJoinByHand has answers that are written out: "!31" is ErrClash, "!141" ErrLoop.
func TestJoinByHand(t *testing.T) {
	a, b, c, d := patch("a"), patch("b a"), patch("c"), patch("d b c")
	for _, x := range []struct {
		l, more []api.Patch
		want    string
	}{
		{nil, nil, ""},
		{patches(a), nil, "a"},
		{patches(b, a), patches(a, c), "a b c"},
		{patches(d, b), patches(c, a), "a b c d"}, // what neither is alone
		{patches(d, c, b, a), patches(d, c, b, a), "a b c d"},
		{patches(a, b), patches(c, d, a, b), "a b c d"},
		{patches(b), nil, "!141"},
		{patches(b), patches(c), "!141"},
		{patches(b), patches(b), "!141"},
		{patches(patch("a b")), patches(b), "!141"},
		{patches(patch("a b"), b), patches(b), "!141"},
		{patches(a), patches(patch("a b"), b), "!31"},
		{patches(a, c), patches(tag("a")), "!31"},
		{patches(b), patches(patch("b")), "!31"}, // a clash is ahead of what is not there
		{patches(d, patch("e f"), patch("f e")), patches(patch("d b")), "!31"},
		{patches(a, b, c), patches(patch("0"), c, patch("z 0"), b), "0 a b c z"},
		{patches(a, b, c), patches(patch("0"), patch("z 0"), patch("c 0")), "!31"},
		{patches(tag("t a"), a), patches(a, tag("u t"), tag("t a")), "a t u"},
	} {
		for _, l := range [][]api.Patch{x.l, backward(x.l)} {
			for _, more := range [][]api.Patch{x.more, backward(x.more)} {
				what := "Join of " + told(l, 0) + " and " + told(more, 0)
				written(t, what, told(inventory.Join(l, more)), x.want)
				written(t, what+", turned about,", told(inventory.Join(more, l)), x.want)
				askJoin(t, l, more)
				askJoin(t, more, l)
			}
		}
	}
}

// TestUnlike has patches of one name that are unlike in one thing each.
func TestUnlike(t *testing.T) {
	lines := func(p string, at int, old, now string) api.Prim {
		return api.Prim{Kind: api.Lines, Path: p, At: at, Old: strings.Fields(old), New: strings.Fields(now)}
	}
	change := func(kind int, p, to, from string) api.Prim {
		return api.Prim{Kind: kind, Path: p, To: to, From: from}
	}
	of := func(deps string, body ...api.Prim) api.Patch {
		return api.Patch{Name: "q", Deps: strings.Fields(deps), Body: body}
	}
	dir, text := change(api.AddDir, "x", "", ""), change(api.AddText, "x", "", "")
	l := patches(of(""), of("a"), of("b"), of("a b"), of("a b c"),
		of("", dir), of("a", dir), of("", text), of("", dir, text), of("", text, dir), of("", dir, dir), of("", change(api.AddDir, "y", "", "")), of("", change(api.RmDir, "x", "", "")),
		of("", lines("x", 0, "a", "b")), of("", lines("x", 1, "a", "b")), of("", lines("x", 1<<30, "a", "b")), of("", lines("y", 0, "a", "b")), of("", lines("x", 0, "b", "a")),
		of("", lines("x", 0, "a", "c")), of("", lines("x", 0, "c", "b")), of("", lines("x", 0, "a", "")), of("", lines("x", 0, "", "b")), of("", lines("x", 0, "a a", "b")), of("", lines("x", 0, "a", "a b")), of("", lines("x", 0, "", "a b")),
		of("", change(api.Token, "x", "a", "b")), of("", change(api.Token, "x", "b", "a")), of("", change(api.Token, "x", "a", "c")), of("", change(api.Token, "x", "c", "b")),
		of("", change(api.Bytes, "x", "a", "b")), of("", change(api.Bytes, "x", "ab", "")), of("", change(api.Bytes, "x", "", "ab")),
		of("", change(api.Move, "x", "y", "")), of("", change(api.Move, "y", "x", "")), of("", change(api.Move, "x", "z", "")),
		of("", dir, lines("x", 0, "a", "b"), text), of("", dir, lines("x", 0, "a", "c"), text), of("", text, lines("x", 0, "a", "b"), text), of("", dir, lines("x", 0, "a", "b"), dir))
	ahead, more := patches(patch("a"), patch("b"), patch("c")), patches(patch("y"), patch("z q"))
	for i, p := range l {
		for j, q := range l {
			want := "a b c q y z"
			if i != j {
				want = "!31"
			}
			x, y := append(patches(p), ahead...), append(more, q)
			written(t, fmt.Sprintf("Join with %+v and %+v", p, q), told(askJoin(t, x, y)), want)
		}
	}
}

// TestEmptyLists: a list without anything is one with another one, nil or not.
func TestEmptyLists(t *testing.T) {
	of := func(deps, old []string) []api.Patch {
		change := api.Prim{Kind: api.Lines, Path: "t", Old: old, New: words("x")}
		return patches(api.Patch{Name: "a", Deps: deps, Body: []api.Prim{change}}, api.Patch{Name: "t", Deps: deps, Body: changes(len(deps))})
	}
	nils, not := of(nil, nil), of([]string{}, []string{})
	not[1].Body = []api.Prim{}
	nils[1].Body = nil
	for _, l := range [][]api.Patch{nils, not} {
		for _, more := range [][]api.Patch{nils, not} {
			written(t, "Join", told(askJoin(t, l, more)), "a t")
		}
		written(t, "Newest", toldName(askNewest(t, l, "a", "t")), "t")
	}
	for _, empty := range [][]string{nil, {}} {
		written(t, "Newest", toldName(askNewest(t, nils, empty...)), "")
		written(t, "Wants", told(askWants(t, nils, empty, words("a"))), "a")
		written(t, "Wants", told(askWants(t, nils, words("a"), empty)), "")
		written(t, "Without", told(askWithout(t, nils, empty...)), "a t")
	}
	for _, l := range [][]api.Patch{nil, {}} {
		written(t, "Newest", toldName(askNewest(t, l, "a")), "")
		written(t, "Since", toldNames(askSince(t, l, "")), "")
		written(t, "Since", toldNames(askSince(t, l, "a")), "!12")
		written(t, "Join", told(askJoin(t, l, nils)), "a t")
		written(t, "Join", told(askJoin(t, nils, l)), "a t")
		written(t, "Join", told(askJoin(t, l, nil)), "")
	}
}

// wrongSets are patches that are no set, each for one reason.
func wrongSets() [][]api.Patch {
	many := row(numbered(api.MaxPatches+1), none)
	l := [][]api.Patch{
		many, row(numbered(api.MaxPatches+1), last), slices.Repeat(patches(tag("a")), 5000),
		{tag("a"), tag("a")}, {tag("a"), tag("b"), patch("a")}, {patch("b a"), tag("a"), tag("c"), patch("b a")}, {patch("a b"), patch("b a"), tag("a")},
		append(many[:api.MaxPatches-1:api.MaxPatches-1], many[0]),
	}
	for _, p := range []api.Patch{
		{}, {Name: "A"}, {Name: "a/b"}, {Name: "", Body: changes(1)}, {Name: strings.Repeat("a", 25)},
		tag("q A"), tag("q q"), tag("q b b"), tag("q c b"), {Name: "q", Deps: words("")}, {Name: "q", Deps: numbered(api.MaxDeps + 1)},
		{Name: "q", Body: changes(api.MaxBody + 1)}, {Name: "q", Body: make([]api.Prim, 1)}, {Name: "q", Body: append(changes(9), api.Prim{Kind: 11, Path: "a"})},
		{Name: "q", Body: []api.Prim{{Kind: api.Lines, Path: "a", At: -1, New: words("x")}}}, {Name: "q", Body: []api.Prim{{Kind: -1 << 63, Path: "a"}}},
	} {
		l = append(l, patches(p), patches(tag("b"), tag("c"), p), patches(p, patch("b c"), patch("c b")), append(row(numbered(api.MaxPatches-1), every), p))
	}
	return l
}

// TestNoSets: ErrArg is ahead of all other errors, and alone.
func TestNoSets(t *testing.T) {
	good := [][]api.Patch{nil, patches(patch("b c"), tag("c"), tag("q"), tag("d.001 x")), row(numbered(api.MaxPatches), none)}
	for _, l := range wrongSets() {
		for _, l := range [][]api.Patch{l, backward(l)} {
			for _, names := range [][]string{nil, {"a"}, {"none"}, namesOf(l)} {
				written(t, "Newest", toldName(askNewest(t, l, names...)), "!1")
				written(t, "Wants", told(askWants(t, l, nil, names)), "!1")
				written(t, "Wants", told(askWants(t, l, names, nil)), "!1")
				written(t, "Wants", told(askWants(t, l, names, names)), "!1")
				written(t, "Without", told(askWithout(t, l, names...)), "!1")
			}
			for _, name := range words("", "a", "none", "A", l[0].Name) {
				written(t, "Since "+name, toldNames(askSince(t, l, name)), "!1")
			}
			for _, more := range append(good, l) {
				written(t, "Join", told(askJoin(t, l, more)), "!1")
				written(t, "Join", told(askJoin(t, more, l)), "!1")
			}
		}
	}
}

// TestTooMany: two sets that together are none.
func TestTooMany(t *testing.T) {
	all := row(numbered(api.MaxPatches+1), last)
	more := row(numbered(2*api.MaxPatches), none)
	for _, c := range []struct {
		l, more []api.Patch
		want    api.Errno
	}{
		{all[:256], all[:256], api.OK}, {all[:256], nil, api.OK}, {all[:256], all[200:256], api.OK}, {all[:128], all[128:256], api.OK}, {all[:255], all[255:256], api.OK},
		{all[:256], all[256:], api.ErrArg}, {all[:256], all[1:257], api.ErrArg}, {all[:128], all[128:257], api.ErrArg}, {more[:256], more[256:], api.ErrArg},
		{all[1:257], all[1:257], api.ErrLoop}, {all[1:257], all[:1], api.ErrArg}, {all[:256], patches(patch("l m")), api.ErrArg}, // what is too many is ahead of a loop
		{all[:256], patches(all[256], tag("d.001")), api.ErrClash}, {all[:256], more[:256], api.ErrClash}, {all[1:257], patches(all[0], tag("d.256")), api.ErrClash}, // and a clash ahead of both
	} {
		want := told(nil, c.want)
		if c.want == api.OK {
			want = strings.Join(numbered(256), " ")
		}
		for _, l := range [][]api.Patch{c.l, backward(c.l)} {
			written(t, "Join", told(askJoin(t, l, c.more)), want)
			written(t, "Join", told(askJoin(t, backward(c.more), l)), want)
		}
	}
}

// TestEdges has sets as great as may be.
func TestEdges(t *testing.T) {
	names := numbered(api.MaxPatches)
	for _, l := range [][]api.Patch{row(names, none), row(names, last), row(backward(names), last), row(names, every), row(backward(names), every)} {
		askNewest(t, l, backward(names[220:])...)
		for i := range l {
			l[i].Body = changes(i / 32 % 2 * (i % 9) * api.MaxBody / 8)
		}
		askNewest(t, l, names[:33]...)
		for _, name := range words("", names[0], names[128], names[255], "d.256") {
			askSince(t, l, name)
			askWants(t, l, names[50:150], words(name))
			askWants(t, l, words(name), names)
			askWithout(t, l, name)
		}
		askWithout(t, l, names...)
		askJoin(t, l, backward(l))
		askJoin(t, l[:128], l)
	}
}

// TestManyNames: there may be more names than patches.
func TestManyNames(t *testing.T) {
	names := slices.Repeat(words("f", "b", "t1", "g", "b", "t6"), 100000)
	l, wrong := ground(), append(slices.Clone(names), "z")
	for _, have := range [][]string{names, wrong} {
		written(t, "Newest", toldName(inventory.Newest(l, have)), "t1")
		written(t, "Wants", told(inventory.Wants(l, have, words("f", "t3"))), "a c d e t3")
	}
	written(t, "Wants", told(inventory.Wants(l, words("a", "c"), names)), "b d e f g t1 t6")
	written(t, "Wants", told(inventory.Wants(l, nil, wrong)), "!12")
	written(t, "Without", told(inventory.Without(l, names)), "a c l m n t5 t8 t9 tn")
	written(t, "Without", told(inventory.Without(l, wrong)), "!12")
}
