package replay_test

import (
	"math/rand"
	"slices"
	"testing"

	"counterpane/api"
	"counterpane/prim"
	"counterpane/replay"
)

func (w *whys) add(v whys) {
	w.done, w.dep, w.split, w.merge, w.tree = w.done+v.done, w.dep+v.dep, w.split+v.split, w.merge+v.merge, w.tree+v.tree
}

// bodies are rows of which some can be done on nothing, some behind others, and some beside others.
func bodies() [][]api.Prim {
	return [][]api.Prim{
		nil,
		row(plain(api.AddDir, "x")),
		row(plain(api.AddText, "t"), hunk("t", 0, "", "1 2 3 4 5")),
		row(hunk("t", 0, "1", "v w")),
		row(hunk("t", 4, "5", ""), hunk("t", 2, "3", "z")),
		row(moved("t", "u")),
		row(token("t", "5", "6")),
		row(moved("t", "x/t")),
		row(plain(api.AddText, "x/t"), moved("x/t", "u")),
	}
}

// eachDeps calls f with all that n patches of the names a, b, .. may stand on: none on itself.
func eachDeps(n int, f func(deps [][]string)) {
	names := []string{"a", "b", "c", "d"}[:n]
	for bits := range 1 << (n * n) {
		deps, itself := make([][]string, n), false
		for i := range n {
			for j := range n {
				if bits>>(i*n+j)&1 == 1 {
					deps[i], itself = append(deps[i], names[j]), itself || i == j
				}
			}
		}
		if !itself {
			f(deps)
		}
	}
}

// TestShortSets has all sets of up to three patches with such bodies, those that stand on one another too.
func TestShortSets(t *testing.T) {
	var all whys
	loops := 0
	for n := range 4 {
		eachDeps(n, func(deps [][]string) {
			eachRow(bodies(), n, func(rows [][]api.Prim) {
				var l []api.Patch
				for i, body := range rows {
					l = append(l, api.Patch{Name: string(rune('a' + i)), Deps: deps[i], Body: body})
				}
				slices.Reverse(l)
				s, w := ask(t, l)
				if len(s.Done)+len(s.Left) < n {
					loops++
				}
				all.add(w)
			})
		})
	}
	if loops < 1000 || all.done < 10000 || all.dep < 1000 || all.merge < 1000 || all.tree < 1000 {
		t.Errorf("only these: %+v, and %d loops", all, loops)
	}
}

// eachRow calls f with all rows of n of l.
func eachRow[T any](l []T, n int, f func(row []T)) {
	var more func(row []T)
	more = func(row []T) {
		if len(row) == n {
			f(row)
			return
		}
		for _, x := range l {
			more(append(row[:len(row):len(row)], x))
		}
	}
	more(nil)
}

// passing are rows of which many can pass one another.
func passing() [][]api.Prim {
	return [][]api.Prim{
		nil,
		row(hunk("a", 0, "x", "y z")),
		row(hunk("a", 4, "x", ""), hunk("a", 7, "", "y")),
		row(moved("a", "b"), hunk("b", 9, "", "y")),
		row(plain(api.AddDir, "e"), token("b", "x", "y")),
		row(moved("b", "a")),
		row(plain(api.RmDir, "e")),
		row(plain(0, "f"), hunk("a", 0, "", "")),
	}
}

// TestShortSplits has all rows of up to four such rows, and all that may be first of them, told of fewer of them, or of more.
func TestShortSplits(t *testing.T) {
	can := map[bool]int{}
	for n := range 5 {
		eachRow(passing(), n, func(l [][]api.Prim) {
			for bits := range 1 << (n + 1) {
				var first []bool
				for i := range n + 1 {
					first = append(first, bits>>i&1 == 1)
				}
				can[askSplit(t, l, first...)]++
				for !first[len(first)-1] {
					if first = first[:len(first)-1]; len(first) == 0 {
						break
					}
				}
				askSplit(t, l, first...)
			}
		})
	}
	if can[true] < 10000 || can[false] < 10000 {
		t.Errorf("only these: %v", can)
	}
}

// TestShortMerges has all rows of up to two such rows beside one another.
func TestShortMerges(t *testing.T) {
	can := map[bool]int{}
	for n := range 3 {
		for m := range 3 {
			eachRow(passing(), n, func(a [][]api.Prim) {
				eachRow(passing(), m, func(b [][]api.Prim) {
					_, is := askMerge(t, slices.Concat(a...), slices.Concat(b...))
					can[is]++
				})
			})
		}
	}
	if can[true] < 500 || can[false] < 1000 {
		t.Errorf("only these: %v", can)
	}
}

func pick[T any](r *rand.Rand, l ...T) T { return l[r.Intn(len(l))] }

// words are what lines, tokens and data are made of.
func words() []string { return []string{"x", "y", "z", "x+y", ""} }

// anyChange is one that may well be done on l.
func anyChange(r *rand.Rand, l []api.Entry) api.Prim {
	x := dir("a")
	if len(l) > 0 {
		x = pick(r, l...)
	}
	switch n := r.Intn(14); {
	case n < 2 || len(l) == 0:
		return plain(pick(r, api.AddDir, api.AddText, api.AddData), anyPlace(r, l))
	case n == 3 || n == 4 && x.Kind == api.KindDir:
		return moved(x.Path, anyPlace(r, l))
	case n == 5:
		return plain(2*x.Kind, x.Path)
	case x.Kind == api.KindData:
		return bytesOf(x.Path, x.Data, pick(r, words()...))
	case n == 6:
		return token(x.Path, pick(r, words()...), pick(r, words()...))
	}
	return anyLines(r, x)
}

// anyPlace is a path at which something may come to lie.
func anyPlace(r *rand.Rand, l []api.Entry) string {
	in := pick(r, "a", "b", "a.", "c", "d", "e")
	if len(l) > 0 && r.Intn(3) > 0 {
		return pick(r, l...).Path + "/" + in
	}
	return in
}

// anyLines is a Lines that fits a text, of a few lines, so that others have room beside it.
func anyLines(r *rand.Rand, x api.Entry) api.Prim {
	at := r.Intn(len(x.Lines) + 1)
	to := at + r.Intn(min(2, len(x.Lines)-at)+1)
	p := api.Prim{Kind: api.Lines, Path: x.Path, At: at, Old: slices.Clone(x.Lines[at:to])}
	for range r.Intn(4) {
		p.New = append(p.New, pick(r, words()...))
	}
	return p
}

// anyBody is changes that can be done on l, one behind the other, and what they make.
func anyBody(r *rand.Rand, l []api.Entry, n int) ([]api.Prim, []api.Entry) {
	var body []api.Prim
	for tries := 0; len(body) < n && tries < 10*n; tries++ {
		p := anyChange(r, l)
		if made, e := prim.Apply(l, p); e == api.OK {
			body, l = append(body, p), made
		}
	}
	return body, l
}

// ground is a tree with texts that are long enough for several Lines, and a row that makes it.
func ground(r *rand.Rand) ([]api.Prim, []api.Entry) {
	long := func(p string) api.Prim {
		h := hunk(p, 0, "", "")
		for range 10 + r.Intn(15) {
			h.New = append(h.New, pick(r, words()...))
		}
		return h
	}
	body := row(plain(api.AddDir, "a"), plain(api.AddText, "a/b"), long("a/b"), plain(api.AddDir, "b"), plain(api.AddDir, "b/a"), plain(api.AddText, "b/a/a"), long("b/a/a"),
		plain(api.AddText, "c"), long("c"), plain(api.AddData, "d"), bytesOf("d", "", "x"))
	made, _, _ := prim.All(nil, body)
	return body, made
}

// label is the name of the patch that is made as the one at i: not in their order.
func label(i int) string { return string(rune('a'+i*7%26)) + string(rune('a'+i%26)) }

// anySet is patches, each made on what some of those ahead of it make, and standing on what is done of these.
func anySet(t *testing.T, r *rand.Rand, n int) []api.Patch {
	t.Helper()
	body, _ := ground(r)
	l := []api.Patch{{Name: label(0), Body: body}}
	for i := 1; i < n; i++ {
		var some []api.Patch
		for _, p := range l {
			if len(some) == 0 || r.Intn(3) > 0 && !slices.ContainsFunc(p.Deps, func(dep string) bool {
				return !slices.ContainsFunc(some, func(q api.Patch) bool { return q.Name == dep })
			}) {
				some = append(some, p)
			}
		}
		s, e := replay.Replay(some)
		if e != api.OK {
			t.Fatalf("Replay(%s) is %d", show(some), e)
		}
		body, _ := anyBody(r, s.Tree, 1+r.Intn(3))
		deps := slices.Clone(s.Done)
		slices.Sort(deps)
		l = append(l, api.Patch{Name: label(i), Deps: deps, Body: body})
	}
	return l
}

// TestAnySets has sets as repositories make them, and P15.2.
func TestAnySets(t *testing.T) {
	r := rand.New(rand.NewSource(15))
	var all whys
	for range 300 {
		l := anySet(t, r, 2+r.Intn(14))
		s, w := ask(t, l)
		all.add(w)
		for range 3 {
			r.Shuffle(len(l), func(i, j int) { l[i], l[j] = l[j], l[i] })
			if other, e := replay.Replay(l); e != api.OK || !alikeState(s, other) {
				t.Fatalf("Replay(%s) is %s, %d; and in another order %s", show(l), show(other), e, show(s))
			}
		}
	}
	if all.done < 1000 || all.dep < 200 || all.merge < 100 {
		t.Errorf("only these: %+v", all)
	}
}

// TestWildSets has sets whose patches stand on what they like, whatever they were made on.
func TestWildSets(t *testing.T) {
	r := rand.New(rand.NewSource(15))
	var all whys
	for range 1000 {
		l := anySet(t, r, 2+r.Intn(10))
		for i := range l {
			var deps []string
			for _, q := range l[:i] {
				if r.Intn(4) == 0 {
					deps = append(deps, q.Name)
				}
			}
			slices.Sort(deps)
			if r.Intn(2) == 0 {
				l[i].Deps = deps
			}
		}
		_, w := ask(t, l)
		all.add(w)
	}
	if all.done < 1000 || all.dep < 200 || all.merge < 100 || all.tree < 100 {
		t.Errorf("only these: %+v", all)
	}
}
