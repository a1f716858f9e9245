package inventory_test

import (
	"math/rand"
	"slices"
	"testing"

	"counterpane/api"
	"counterpane/closure"
	"counterpane/inventory"
)

// some are those of a list whose bits are set.
func some[T any](l []T, bits int) []T {
	var chosen []T
	for i, x := range l {
		if bits>>i&1 == 1 {
			chosen = append(chosen, x)
		}
	}
	return chosen
}

// eachSet tells all sets of patches of some of those names, whose Deps are of these and of x, with or without a Body.
func eachSet(names []string, bodies int, tell func(l []api.Patch)) {
	var with func(left []string, l []api.Patch)
	with = func(left []string, l []api.Patch) {
		if len(left) == 0 {
			tell(l)
			return
		}
		with(left[1:], l)
		may := slices.DeleteFunc(append(slices.Clone(names), "x"), func(dep string) bool { return dep == left[0] })
		for bits := range 1 << len(may) {
			for n := range bodies {
				with(left[1:], append(l[:len(l):len(l)], api.Patch{Name: left[0], Deps: some(may, bits), Body: changes(n)}))
			}
		}
	}
	with(names, nil)
}

// sets are all such.
func sets(names []string, bodies int) [][]api.Patch {
	var all [][]api.Patch
	eachSet(names, bodies, func(l []api.Patch) { all = append(all, l) })
	return all
}

// isClosed tells whether patches are a set each of whose Deps is there, and none of which stands on itself.
func isClosed(l []api.Patch) bool {
	_, e := closure.Order(l)
	return e == api.OK
}

// TestSmallSets has all sets of up to three patches, either way about, with all choices of names.
func TestSmallSets(t *testing.T) {
	seen := map[string]int{}
	mayHave, mayName := words("a", "c", "b"), words("c", "x", "a")
	eachSet(words("a", "b", "c"), 2, func(l []api.Patch) {
		for _, l := range [][]api.Patch{l, backward(l)} {
			for bits := range 8 {
				newest, _ := askNewest(t, l, append(some(mayHave, bits), "y")...)
				seen["Newest "+newest]++
				_, e := askWithout(t, l, some(mayName, bits)...)
				seen["Without "+toldName("", e)]++
			}
			for _, name := range append(words(""), mayName...) {
				_, e := askSince(t, l, name)
				seen["Since "+toldName("", e)]++
			}
		}
		for bits := range 8 * 8 {
			_, e := askWants(t, l, some(mayHave, bits), some(mayName, bits>>3))
			seen["Wants "+toldName("", e)]++
		}
		if isClosed(l) {
			closed(t, l)
		}
	})
	for _, what := range words("Newest ", "Newest a", "Newest b", "Newest c", "Since ", "Since !12", "Wants ", "Wants !12", "Without ", "Without !12") {
		if seen[what] < 1000 {
			t.Errorf("%q was seen %d times", what, seen[what])
		}
	}
}

// closed asks P16.2 and P16.4 of a closed set, and of all choices of up to four names of it.
func closed(t *testing.T, l []api.Patch) {
	t.Helper()
	all := namesOf(l)
	for bits := range 1 << min(4, len(all)) {
		names := some(all, bits)
		takenAway(t, l, names)
		for bits := range 1 << min(4, len(all)) {
			suffices(t, l, some(all, bits), names)
		}
	}
}

// suffices asks P16.2 of a closed set, what somebody has, and names of it, by what is answered alone.
func suffices(t *testing.T, l []api.Patch, have, names []string) {
	t.Helper()
	wants, e := inventory.Wants(l, have, names)
	if e != api.OK || slices.ContainsFunc(wants, func(p api.Patch) bool { return slices.Contains(have, p.Name) }) {
		t.Fatalf("of %s one who has %.200q wants %s, %d", show(l), have, show(wants), e)
	}
	// What is not told must be had: any closed set that has this will do.
	rest, e := closure.Down(l, have)
	if e != api.OK {
		t.Fatalf("Down of %.200q in %s is %d", have, show(l), e)
	}
	joined, e := inventory.Join(those(l, rest), wants)
	if e != api.OK || !isClosed(joined) {
		t.Fatalf("%s with %s is %s, %d", show(rest), show(wants), show(joined), e)
	}
	for _, p := range joined {
		if !slices.ContainsFunc(l, func(q api.Patch) bool { return p.Name == q.Name && alike(p, q) }) {
			t.Fatalf("%s with %s has %s", show(rest), show(wants), show(p))
		}
	}
	for _, name := range names {
		if !slices.Contains(namesOf(joined), name) {
			t.Fatalf("%s with %s lacks %s", show(rest), show(wants), name)
		}
	}
	for _, have := range [][]string{namesOf(l), append(namesOf(joined), "y")} {
		if wants, e = inventory.Wants(l, have, names); e != api.OK || len(wants) > 0 {
			t.Fatalf("of %s one who has %.200q wants %s, %d", show(l), have, show(wants), e)
		}
	}
}

// takenAway asks P16.4 of a closed set, and names of it, by what is answered alone.
func takenAway(t *testing.T, l []api.Patch, names []string) {
	t.Helper()
	left, e := inventory.Without(l, names)
	if e != api.OK || !isClosed(left) {
		t.Fatalf("%s without %.200q is %s, %d", show(l), names, show(left), e)
	}
	taken := others(l, namesOf(left))
	for _, name := range names {
		if !slices.Contains(namesOf(taken), name) {
			t.Fatalf("%s without %.200q has %s", show(l), names, name)
		}
	}
	for range 2 {
		all, e := inventory.Join(left, taken)
		if e != api.OK || !slices.EqualFunc(all, byName(l), alike) {
			t.Fatalf("%s with %s is %s, %d", show(left), show(taken), show(all), e)
		}
		left, taken = taken, left
	}
}

// eitherWay asks P16.3 of two lists of patches, by what is answered alone, and tells the answer.
func eitherWay(t *testing.T, a, b []api.Patch) ([]api.Patch, api.Errno) {
	t.Helper()
	one, e := inventory.Join(a, b)
	two, f := inventory.Join(b, a)
	if e != f || !slices.EqualFunc(one, two, alike) {
		t.Fatalf("%s with %s is %s, %d; the other way about %s, %d", show(a), show(b), show(one), e, show(two), f)
	}
	if e != api.OK && len(one) > 0 {
		t.Fatalf("%s with %s is %s, %d", show(a), show(b), show(one), e)
	}
	return one, e
}

// ofThree asks P16.3 of three lists of patches, by what is answered alone, and tells whether they can be joined. (Where two of them cannot be, that is another error than of all, where there are several.)
func ofThree(t *testing.T, a, b, c []api.Patch) bool {
	t.Helper()
	joined := func(x, y, z []api.Patch) ([]api.Patch, bool) {
		two, e := inventory.Join(x, y)
		if e != api.OK {
			return nil, false
		}
		all, e := inventory.Join(two, z)
		return all, e == api.OK
	}
	all, can := joined(a, b, c)
	inOrder := isClosed(a) && isClosed(b) && isClosed(c)
	for _, l := range [][3][]api.Patch{{b, c, a}, {a, c, b}} {
		other, is := joined(l[0], l[1], l[2])
		if is != can && inOrder || is && can && !slices.EqualFunc(all, other, alike) {
			t.Fatalf("%s, %s, %s is %s, %t; otherwise %s, %t", show(a), show(b), show(c), show(all), can, show(other), is)
		}
	}
	return can
}

// withItself asks the end of P16.3: a closed set joined with itself is that.
func withItself(t *testing.T, l []api.Patch) {
	t.Helper()
	if joined, e := inventory.Join(l, backward(l)); e != api.OK || !slices.EqualFunc(joined, byName(l), alike) {
		t.Fatalf("%s with itself is %s, %d", show(l), show(joined), e)
	}
}

// TestSmallJoins has all pairs of sets of up to two patches, with or without a Body, and of these with those of up to three without.
func TestSmallJoins(t *testing.T) {
	seen := map[api.Errno]int{}
	few, more := sets(words("a", "b"), 2), sets(words("b", "c", "a"), 1)
	for _, a := range few {
		for _, b := range few {
			_, e := askJoin(t, a, b)
			seen[e]++
			eitherWay(t, a, b)
		}
		for _, b := range more {
			_, e := askJoin(t, a, b)
			seen[e]++
			askJoin(t, b, a)
			eitherWay(t, b, a)
		}
	}
	for _, a := range slices.Concat(few, more) {
		if isClosed(a) {
			withItself(t, a)
		}
	}
	if seen[api.OK] < 100 || seen[api.ErrClash] < 1000 || seen[api.ErrLoop] < 1000 {
		t.Errorf("seen were %v", seen)
	}
}

// TestSmallThrees has all threes of closed sets, of up to three patches without Bodies, and of up to two with or without.
func TestSmallThrees(t *testing.T) {
	can := map[bool]int{}
	for _, l := range [][][]api.Patch{sets(words("a", "b", "c"), 1), sets(words("a", "b"), 2)} {
		l = slices.DeleteFunc(l, func(l []api.Patch) bool { return !isClosed(l) })
		for _, a := range l {
			for _, b := range l {
				for _, c := range l {
					can[ofThree(t, a, b, c)]++
				}
			}
		}
	}
	if can[true] < 1000 || can[false] < 1000 {
		t.Errorf("only these: %v", can)
	}
}

// anyPatches is a closed set as repositories make them: patches and tags that stand on some heads of what was there.
func anyPatches(r *rand.Rand, n int) []api.Patch {
	names := numbered(n)
	r.Shuffle(n, func(i, j int) { names[i], names[j] = names[j], names[i] })
	var l []api.Patch
	for _, name := range names {
		var at []string
		for range r.Intn(4) {
			if len(l) > 0 {
				at = append(at, l[r.Intn(len(l))].Name)
			}
		}
		ground, _ := closure.Down(l, at)
		deps, _ := closure.Heads(those(l, ground))
		l = append(l, api.Patch{Name: name, Deps: deps, Body: changes(max(0, r.Intn(5)-2))})
	}
	r.Shuffle(n, func(i, j int) { l[i], l[j] = l[j], l[i] })
	return l
}

// someOf are some names, of a list and of others.
func someOf(r *rand.Rand, l []string) []string {
	var some []string
	for range r.Intn(5) {
		if len(l) > 0 {
			some = append(some, l[r.Intn(len(l))])
		}
	}
	return some
}

// closedPart is what some patches of a closed set stand on, these too.
func closedPart(r *rand.Rand, l []api.Patch) []api.Patch {
	down, _ := closure.Down(l, someOf(r, namesOf(l)))
	part := those(l, down)
	r.Shuffle(len(part), func(i, j int) { part[i], part[j] = part[j], part[i] })
	return part
}

// spoiltOne has one patch be another one of its name, or gone.
func spoiltOne(r *rand.Rand, l []api.Patch) []api.Patch {
	l = slices.Clone(l)
	if len(l) == 0 {
		return l
	}
	at := r.Intn(len(l))
	switch p := &l[at]; r.Intn(4) {
	case 0:
		p.Body = append(slices.Clone(p.Body), changes(1)...)
	case 1:
		p.Deps = nil
	case 2:
		p.Deps = append(slices.Clone(p.Deps), "x")
	case 3:
		l = slices.Delete(l, at, at+1)
	}
	return l
}

// TestAnySets is P16.1, P16.2 and P16.4 of sets that are made by chance.
func TestAnySets(t *testing.T) {
	r := rand.New(rand.NewSource(16))
	for range 200 {
		l := anyPatches(r, r.Intn(40))
		all := namesOf(l)
		for range 5 {
			have, names := namesOf(closedPart(r, l)), someOf(r, all)
			suffices(t, l, have, names)
			suffices(t, l, someOf(r, all), names)
			takenAway(t, l, names)
		}
		for _, l := range [][]api.Patch{l, spoiltOne(r, l), spoiltOne(r, spoiltOne(r, l))} {
			all := append(namesOf(l), "x", "z")
			for range 5 {
				have, names := someOf(r, all), someOf(r, all)
				askNewest(t, l, have...)
				askNewest(t, l, all...)
				askWants(t, l, have, names)
				askWithout(t, l, names...)
				askSince(t, l, all[r.Intn(len(all))])
			}
		}
	}
}

// TestAnyJoins is P16.1 and P16.3 of sets that are made by chance.
func TestAnyJoins(t *testing.T) {
	r := rand.New(rand.NewSource(61))
	seen, can := map[api.Errno]int{}, map[bool]int{}
	for range 1000 {
		l := anyPatches(r, r.Intn(40))
		a, b, c := closedPart(r, l), closedPart(r, l), closedPart(r, l)
		withItself(t, a)
		if !ofThree(t, a, b, c) {
			t.Fatalf("%s, %s and %s cannot be joined", show(a), show(b), show(c))
		}
		x, y, z := spoiltOne(r, a), spoiltOne(r, b), spoiltOne(r, c)
		can[ofThree(t, x, y, z)]++
		can[ofThree(t, a, x, b)]++
		for _, two := range [][2][]api.Patch{{a, b}, {a, x}, {b, x}, {x, y}, {x, x}} {
			_, e := askJoin(t, two[0], two[1])
			seen[e]++
			eitherWay(t, two[0], two[1])
		}
	}
	if seen[api.OK] < 500 || seen[api.ErrClash] < 500 || seen[api.ErrLoop] < 200 || can[true] < 100 || can[false] < 100 {
		t.Errorf("only these: %v, %v", seen, can)
	}
}

// TestWrongEitherWay: what is no set, or not closed, or too many, is told alike either way about.
func TestWrongEitherWay(t *testing.T) {
	l := append(wrongSets()[4:12], patches(tag("a")), patches(patch("a")), patches(tag("b x")), patches(tag("b a")), row(numbered(256), last), row(numbered(256), none), row(numbered(257)[1:], none), nil)
	for _, a := range l {
		for _, b := range l {
			eitherWay(t, a, b)
		}
	}
}

// TestWhateverOrder: what is answered does not hang on the order in which patches and names stand.
func TestWhateverOrder(t *testing.T) {
	r := rand.New(rand.NewSource(6))
	for range 200 {
		l, have, names := anyPatches(r, 20), numbered(15), numbered(5)
		tags := numbered(20)[r.Intn(20):]
		newest, _ := inventory.Newest(l, tags)
		since, _ := inventory.Since(l, "d.007")
		wants, _ := inventory.Wants(l, have, names)
		left, _ := inventory.Without(l, names)
		for range 10 {
			r.Shuffle(len(l), func(i, j int) { l[i], l[j] = l[j], l[i] })
			for _, names := range [][]string{have, names, tags} {
				r.Shuffle(len(names), func(i, j int) { names[i], names[j] = names[j], names[i] })
			}
			if got, e := inventory.Newest(l, tags); got != newest || e != api.OK {
				t.Fatalf("Newest of %s is %q, %d; it was %q", show(l), got, e, newest)
			}
			if got, e := inventory.Since(l, "d.007"); !slices.Equal(got, since) || e != api.OK {
				t.Fatalf("Since of %s is %q, %d; it was %q", show(l), got, e, since)
			}
			got, e := inventory.Wants(l, have, names)
			same(t, "Wants", []any{l}, got, e, wants, api.OK)
			got, e = inventory.Without(l, names)
			same(t, "Without", []any{l}, got, e, left, api.OK)
		}
	}
}
