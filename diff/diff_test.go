package diff_test

import (
	"fmt"
	"math"
	"math/rand"
	"slices"
	"strconv"
	"strings"
	"testing"

	"counterpane/api"
	"counterpane/diff"
)

// mostKept is how many lines can be kept, in order, of a from i on and of b from j on, for all i and j.
func mostKept(a, b []string) [][]int {
	most := make([][]int, len(a)+1)
	for i := len(a); i >= 0; i-- {
		most[i] = make([]int, len(b)+1)
		for j := len(b); j >= 0; j-- {
			if i < len(a) {
				most[i][j] = max(most[i][j], most[i+1][j])
			}
			if j < len(b) {
				most[i][j] = max(most[i][j], most[i][j+1])
			}
			if i < len(a) && j < len(b) && a[i] == b[j] {
				most[i][j] = max(most[i][j], 1+most[i+1][j+1])
			}
		}
	}
	return most
}

// diffByWords is F2, line by line.
func diffByWords(a, b []string) []api.Hunk {
	most := mostKept(a, b)
	var l []api.Hunk
	open := false
	hunk := func(j int) *api.Hunk {
		if !open {
			l, open = append(l, api.Hunk{At: j}), true
		}
		return &l[len(l)-1]
	}
	for i, j := 0, 0; i < len(a) || j < len(b); {
		comes := i == len(a)
		if i < len(a) && j < len(b) {
			if a[i] == b[j] && 1+most[i+1][j+1] == most[i][j] {
				i, j, open = i+1, j+1, false
				continue
			}
			comes = most[i+1][j] < most[i][j+1]
		}
		if h := hunk(j); comes {
			h.New, j = append(h.New, b[j]), j+1
		} else {
			h.Old, i = append(h.Old, a[i]), i+1
		}
	}
	return l
}

// applyByWords is F1, line by line.
func applyByWords(l []string, h api.Hunk) ([]string, bool) {
	if h.At < 0 || h.At > len(l) {
		return nil, false
	}
	for k, line := range h.Old {
		if h.At+k >= len(l) || l[h.At+k] != line {
			return nil, false
		}
	}
	var made []string
	for k := range len(l) + 1 {
		if k == h.At {
			made = append(made, h.New...)
		}
		if k < len(l) && (k < h.At || k >= h.At+len(h.Old)) {
			made = append(made, l[k])
		}
	}
	return made, true
}

func alikeHunks(l, m []api.Hunk) bool {
	return slices.EqualFunc(l, m, func(g, h api.Hunk) bool {
		return g.At == h.At && slices.Equal(g.Old, h.Old) && slices.Equal(g.New, h.New)
	})
}

// show tells hunks, at least their beginning.
func show(what any) string { return fmt.Sprintf("%.300s", fmt.Sprintf("%+v", what)) }

// letters has a line for each byte of s.
func letters(s string) []string { return strings.Split(s, "") }

// texts are all of up to n lines of one byte of the alphabet each.
func texts(alphabet string, n int) [][]string {
	all, last := []string{""}, []string{""}
	for range n {
		var longer []string
		for _, s := range last {
			for i := range len(alphabet) {
				longer = append(longer, s+alphabet[i:i+1])
			}
		}
		all, last = append(all, longer...), longer
	}
	var out [][]string
	for _, s := range all {
		out = append(out, letters(s))
	}
	return out
}

// lot is n lines, of so many kinds.
func lot(r *rand.Rand, n, kinds int) []string {
	var l []string
	for range n {
		l = append(l, strconv.Itoa(r.Intn(kinds)))
	}
	return l
}

// edited is l with some lines taken out, and others put in.
func edited(r *rand.Rand, l []string, kinds int) []string {
	var out []string
	for _, line := range l {
		if r.Intn(8) > 0 {
			out = append(out, line)
		}
		if r.Intn(8) == 0 {
			out = append(out, lot(r, 1+r.Intn(3), kinds)...)
		}
	}
	return out
}

// holds asks P6.1, P6.2 and P6.3 of one Diff.
func holds(t *testing.T, a, b []string) {
	t.Helper()
	l := diff.Diff(a, b)
	if want := diffByWords(a, b); !alikeHunks(l, want) {
		t.Fatalf("Diff(%.200q, %.200q) is %s, not %s", a, b, show(l), show(want))
	}
	makes(t, a, b, l)
	if cost := len(a) + len(b) - 2*mostKept(a, b)[0][0]; diff.Cost(l) != cost {
		t.Fatalf("Diff(%.200q, %.200q) costs %d, not %d", a, b, diff.Cost(l), cost)
	}
}

// makes asks P6.2 of hunks.
func makes(t *testing.T, a, b []string, l []api.Hunk) {
	t.Helper()
	made, behind := a, -1
	for _, h := range l {
		if len(h.Old) == 0 && len(h.New) == 0 {
			t.Fatalf("of %.200q and %.200q a hunk at %d is empty", a, b, h.At)
		}
		if h.At <= behind {
			t.Fatalf("of %.200q and %.200q nothing stays ahead of the hunk at %d", a, b, h.At)
		}
		behind = h.At + len(h.New)
		var is bool
		if made, is = diff.Apply(made, h); !is {
			t.Fatalf("of %.200q and %.200q the hunk at %d is not to be done", a, b, h.At)
		}
	}
	if !slices.Equal(made, b) {
		t.Fatalf("the hunks of %.200q and %.200q make %.200q", a, b, made)
	}
}

func TestDiff(t *testing.T) {
	hunk := func(at int, old, now string) api.Hunk { return api.Hunk{At: at, Old: letters(old), New: letters(now)} }
	for _, x := range []struct {
		a, b string
		want []api.Hunk
	}{
		{"xyz", "xwz", []api.Hunk{hunk(1, "y", "w")}},
		{"", "", nil}, {"a", "a", nil}, {"abc", "abc", nil},
		{"", "a", []api.Hunk{hunk(0, "", "a")}}, {"a", "", []api.Hunk{hunk(0, "a", "")}}, {"a", "b", []api.Hunk{hunk(0, "a", "b")}},
		{"", "abc", []api.Hunk{hunk(0, "", "abc")}}, {"abc", "", []api.Hunk{hunk(0, "abc", "")}}, {"abc", "def", []api.Hunk{hunk(0, "abc", "def")}},
		{"b", "ab", []api.Hunk{hunk(0, "", "a")}}, {"a", "ab", []api.Hunk{hunk(1, "", "b")}}, {"ab", "b", []api.Hunk{hunk(0, "a", "")}}, {"ab", "a", []api.Hunk{hunk(1, "b", "")}},
		// As many can be kept without the one as without the other: a's goes.
		{"ab", "ba", []api.Hunk{hunk(0, "a", ""), hunk(1, "", "a")}},
		{"abxy", "xyab", []api.Hunk{hunk(0, "ab", ""), hunk(2, "", "ab")}},
		// More without b's: it comes.
		{"abc", "cab", []api.Hunk{hunk(0, "", "c"), hunk(3, "c", "")}},
		// The first of alike lines stays, or the last, as the next ones are alike or not.
		{"aa", "a", []api.Hunk{hunk(1, "a", "")}}, {"a", "aa", []api.Hunk{hunk(1, "", "a")}},
		{"aa", "qa", []api.Hunk{hunk(0, "a", "q")}}, {"qa", "aa", []api.Hunk{hunk(0, "q", ""), hunk(1, "", "a")}},
		{"cx", "xdx", []api.Hunk{hunk(0, "c", ""), hunk(1, "", "dx")}},
		// At counts b's lines: hunks are done one behind the other.
		{"1234", "1xy24z", []api.Hunk{hunk(1, "", "xy"), hunk(4, "3", ""), hunk(5, "", "z")}},
		{"1234", "24", []api.Hunk{hunk(0, "1", ""), hunk(1, "3", "")}},
		{"abcabba", "cbabac", []api.Hunk{hunk(0, "ab", ""), hunk(1, "a", ""), hunk(2, "", "a"), hunk(5, "", "c")}},
	} {
		a, b := letters(x.a), letters(x.b)
		if got := diff.Diff(a, b); !alikeHunks(got, x.want) {
			t.Errorf("Diff(%q, %q) is %s", x.a, x.b, show(got))
		}
		holds(t, a, b)
	}
	if l := diff.Diff(nil, nil); len(l) != 0 {
		t.Errorf("of nothing %s", show(l))
	}
}

func TestDiffOfShortTexts(t *testing.T) {
	for _, all := range [][][]string{texts("ab", 6), texts("abc", 4), texts("abcd", 3)} {
		for _, a := range all {
			for _, b := range all {
				holds(t, a, b)
			}
		}
	}
}

// TestDiffOfLongerTexts has all lengths up to some, so that lines lie at all places of the rows that are held.
func TestDiffOfLongerTexts(t *testing.T) {
	r := rand.New(rand.NewSource(1))
	for n := range 40 {
		for m := range 40 {
			for _, kinds := range []int{1, 2, 3, 12} {
				holds(t, lot(r, n, kinds), lot(r, m, kinds))
			}
		}
	}
	for range 300 {
		a := lot(r, r.Intn(300), 1+r.Intn(50))
		holds(t, a, edited(r, a, 50))
		holds(t, edited(r, a, 50), edited(r, a, 5))
	}
}

// TestDiffOfLongTexts has texts of many lines: the longest against such that leave little to reckon.
func TestDiffOfLongTexts(t *testing.T) {
	r := rand.New(rand.NewSource(2))
	a := lot(r, 1200, 30)
	holds(t, a, edited(r, a, 30))
	holds(t, lot(r, 1500, 3), lot(r, 10, 3))
	holds(t, lot(r, 10, 3), lot(r, 1500, 3))

	long := lot(r, 1<<20, 1<<20)
	if l := diff.Diff(long, slices.Clone(long)); len(l) != 0 {
		t.Fatal("alike texts have hunks")
	}
	last := len(long) - 1
	changed := append(slices.Clone(long[:last]), "new")
	if l := diff.Diff(long, changed); !alikeHunks(l, []api.Hunk{{At: last, Old: long[last:], New: []string{"new"}}}) {
		t.Fatalf("%d hunks of one line", len(l))
	}
	if l := diff.Diff(nil, long); !alikeHunks(l, []api.Hunk{{New: long}}) {
		t.Fatalf("%d hunks of a new text", len(l))
	}
	if l := diff.Diff(long, nil); !alikeHunks(l, []api.Hunk{{Old: long}}) {
		t.Fatalf("%d hunks of a text that goes", len(l))
	}
	ones, others := lot(r, 8000, 1), slices.Repeat([]string{"other"}, 8000)
	if l := diff.Diff(ones, others); !alikeHunks(l, []api.Hunk{{Old: ones, New: others}}) {
		t.Fatalf("%d hunks of texts that have nothing alike", len(l))
	}
}

// TestDiffOfOddLines has lines that are not right, or no text, or almost alike: only the same bytes are alike.
func TestDiffOfOddLines(t *testing.T) {
	odd := []string{"", " ", "\n", "\n\n", "\x00", "\x00\x00", "\xff", "\xfe", "\uFFFD", "a", "A", "a ", "a\n", "a\r", "ä", "a\u0308"}
	for _, x := range odd {
		for _, y := range odd {
			holds(t, []string{x}, []string{y})
			holds(t, []string{x, y}, []string{y, x})
			holds(t, []string{"q", x, y}, []string{x, "q", y, x})
		}
	}
	reversed := slices.Clone(odd)
	slices.Reverse(reversed)
	holds(t, odd, reversed)

	var a []string
	for k := range 100 {
		a = append(a, strings.Repeat("x", 1<<16)+string(rune('a'+k)))
	}
	b := slices.Clone(a)
	slices.Reverse(b[20:40])
	holds(t, a, b)
}

// TestNoneCostsLess is P6.3 by all ways from a to b: a hunk costs as much as to take out and put in its lines one by one.
func TestNoneCostsLess(t *testing.T) {
	const room = 6 // lines on the way, more than both have
	for _, a := range texts("ab", 4) {
		steps := stepsFrom(strings.Join(a, ""), "ab", room)
		for _, b := range texts("ab", 4) {
			if cost := diff.Cost(diff.Diff(a, b)); cost != steps[strings.Join(b, "")] {
				t.Fatalf("Diff(%q, %q) costs %d, but %d is enough", a, b, cost, steps[strings.Join(b, "")])
			}
		}
	}
}

// stepsFrom is how many bytes are to be taken out and put in, one by one, to make each text of that much room of s.
func stepsFrom(s, alphabet string, room int) map[string]int {
	steps := map[string]int{s: 0}
	reach := func(from, to string) bool {
		_, known := steps[to]
		if !known {
			steps[to] = steps[from] + 1
		}
		return !known
	}
	for row := []string{s}; len(row) > 0; row = row[1:] {
		from := row[0]
		for i := range len(from) + 1 {
			if i < len(from) && reach(from, from[:i]+from[i+1:]) {
				row = append(row, from[:i]+from[i+1:])
			}
			for k := range len(alphabet) {
				if to := from[:i] + alphabet[k:k+1] + from[i:]; len(to) <= room && reach(from, to) {
					row = append(row, to)
				}
			}
		}
	}
	return steps
}

func TestApply(t *testing.T) {
	for _, x := range []struct {
		l        string
		at       int
		old, now string
		want     string
		is       bool
	}{
		{"xyz", 1, "y", "w", "xwz", true}, {"xyz", 0, "xyz", "", "", true}, {"xyz", 0, "", "ab", "abxyz", true}, {"xyz", 2, "z", "ab", "xyab", true}, {"xyz", 0, "xy", "a", "az", true},
		{"ab", 1, "b", "", "a", true}, {"ab", 1, "", "", "ab", true}, {"abab", 2, "ab", "c", "abc", true}, {"abab", 0, "ab", "ab", "abab", true},
		// Behind the last line nothing lies, and there something may come.
		{"ab", 2, "", "c", "abc", true}, {"ab", 2, "", "", "ab", true}, {"", 0, "", "", "", true}, {"", 0, "", "a", "a", true},
		{"ab", 2, "b", "", "", false}, {"", 0, "a", "", "", false},
		{"a", 2, "", "", "", false}, {"a", 2, "", "b", "", false}, {"a", 2, "a", "b", "", false}, {"", 1, "", "a", "", false}, {"a", math.MaxInt, "", "b", "", false}, {"a", math.MaxInt, "a", "b", "", false}, {"a", api.MaxAt, "", "b", "", false},
		{"a", -1, "", "b", "", false}, {"a", -1, "a", "b", "", false}, {"a", math.MinInt, "", "", "", false}, {"a", math.MinInt, "a", "b", "", false}, {"", -1, "", "", "", false},
		{"abc", 0, "b", "x", "", false}, {"abc", 1, "a", "x", "", false}, {"abc", 1, "bx", "x", "", false}, {"abc", 1, "bcd", "x", "", false}, {"abc", 2, "cc", "x", "", false}, {"abc", 0, "abcabc", "x", "", false},
	} {
		l, h := letters(x.l), api.Hunk{At: x.at, Old: letters(x.old), New: letters(x.now)}
		got, is := diff.Apply(l, h)
		if is != x.is || strings.Join(got, "") != x.want || len(got) != len(x.want) {
			t.Errorf("Apply(%q, %s) is %q, %v", l, show(h), got, is)
		}
	}
	if l, is := diff.Apply(nil, api.Hunk{New: []string{"", "\n", "\xff"}}); !is || !slices.Equal(l, []string{"", "\n", "\xff"}) {
		t.Errorf("odd lines are %q, %v", l, is)
	}
	if l, is := diff.Apply([]string{"\xff"}, api.Hunk{Old: []string{"\xfe"}}); is || len(l) != 0 {
		t.Errorf("other bytes are alike: %q", l)
	}
}

func TestApplyOfShortTexts(t *testing.T) {
	short := texts("ab", 3)
	for _, l := range texts("ab", 5) {
		for _, old := range short {
			for _, now := range short {
				for at := -2; at <= len(l)+2; at++ {
					h := api.Hunk{At: at, Old: old, New: now}
					got, is := diff.Apply(l, h)
					if want, wantIs := applyByWords(l, h); is != wantIs || !slices.Equal(got, want) {
						t.Fatalf("Apply(%q, %s) is %q, %v", l, show(h), got, is)
					}
				}
			}
		}
	}
}

func TestCost(t *testing.T) {
	for _, x := range []struct {
		l    []api.Hunk
		want int
	}{
		{nil, 0}, {[]api.Hunk{}, 0}, {[]api.Hunk{{}}, 0}, {[]api.Hunk{{At: 7}, {At: -7}}, 0},
		{[]api.Hunk{{Old: letters("abc")}}, 3}, {[]api.Hunk{{New: letters("ab")}}, 2}, {[]api.Hunk{{At: -1, Old: letters("abc"), New: letters("ab")}}, 5},
		{[]api.Hunk{{Old: letters("a"), New: letters("a")}, {At: 3}, {At: 1, New: []string{"", "long line"}}}, 4},
		{slices.Repeat([]api.Hunk{{Old: letters("abc"), New: letters("ab")}}, 1000), 5000},
	} {
		if got := diff.Cost(x.l); got != x.want {
			t.Errorf("Cost(%s) is %d, not %d", show(x.l), got, x.want)
		}
	}
}

// roomy is l with spare room behind it, and all of that.
func roomy(l ...string) ([]string, []string) {
	all := append(l, "spare", "room")
	return all[:len(l):len(all)], all
}

// TestListsHandedIn: they, and their spare room, stay as they were, whatever is done to what comes out.
func TestListsHandedIn(t *testing.T) {
	a, allOfA := roomy("x", "a", "b", "y", "z")
	b, allOfB := roomy("x", "c", "y", "d", "e", "z")
	wasA, wasB := slices.Clone(allOfA), slices.Clone(allOfB)
	same := func(what string) {
		t.Helper()
		if !slices.Equal(allOfA, wasA) || !slices.Equal(allOfB, wasB) {
			t.Fatalf("%s: %q and %q became %q and %q", what, wasA, wasB, allOfA, allOfB)
		}
	}
	for _, h := range diff.Diff(a, b) {
		scrawl(h.Old)
		scrawl(h.New)
		same("Diff")
	}
	for _, h := range []api.Hunk{{At: 0, Old: a[:2], New: b}, {At: 0, Old: a, New: nil}, {At: 5, New: b[:1]}, {At: 1}, {At: 3, Old: a[:2], New: b}, {At: -1, Old: a, New: b}} {
		l, _ := diff.Apply(a, h)
		scrawl(l)
		same("Apply")
		if diff.Cost([]api.Hunk{h}) != len(h.Old)+len(h.New) {
			t.Fatal("spare room costs")
		}
		same("Cost")
	}
}

// scrawl writes over a list, and its spare room.
func scrawl(l []string) {
	for i := range l[:cap(l)] {
		l[:cap(l)][i] = "scrawl"
	}
}

// TestListsAreNew: what is done to one list that came out is to be seen in no other one.
func TestListsAreNew(t *testing.T) {
	a, b := letters("1a2b3c4"), letters("1x2y3z45")
	lists := func() [][]string {
		var out [][]string
		for _, h := range diff.Diff(a, b) {
			out = append(out, h.Old[:cap(h.Old)], h.New[:cap(h.New)])
		}
		l, _ := diff.Apply(a, api.Hunk{At: 1, Old: a[1:2], New: b[1:2]})
		return append(out, l[:cap(l)])
	}
	for k := range lists() {
		out, others := lists(), lists()
		was := lists()
		scrawl(out[k])
		for m := range out {
			if m != k && !slices.Equal(out[m], was[m]) || !slices.Equal(others[m], was[m]) {
				t.Fatalf("list %d: %q became %q", m, was[m], out[m])
			}
		}
	}
	first, second := diff.Diff(a, b), diff.Diff(a, b)
	clear(first[:cap(first)])
	if !alikeHunks(second, diffByWords(a, b)) {
		t.Fatalf("hunks became %s", show(second))
	}
}
