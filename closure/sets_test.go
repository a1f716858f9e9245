package closure_test

import (
	"math/rand"
	"slices"
	"testing"

	"counterpane/api"
	"counterpane/closure"
)

// some are those of a list whose bits are set.
func some[T any](l []T, bits int) []T {
	var chosen []T
	for i, x := range l {
		if bits>>i&1 == 1 {
			chosen = append(chosen, x)
		}
	}
	return chosen
}

// eachSet tells all sets of those names, whose Deps are of these and of others.
func eachSet(names, others []string, tell func(l []api.Patch)) {
	deps := all(append(slices.Clone(names), others...))
	var with func(l []api.Patch)
	with = func(l []api.Patch) {
		if len(l) == len(names) {
			tell(l)
			return
		}
		name := names[len(l)]
		may := slices.DeleteFunc(slices.Clone(deps), func(dep string) bool { return dep == name })
		for bits := range 1 << len(may) {
			with(append(l[:len(l):len(l)], patch(name, some(may, bits)...)))
		}
	}
	with(nil)
}

// eachOrder tells a list in all orders.
func eachOrder[T any](l []T, tell func(l []T)) {
	var with func(ahead, left []T)
	with = func(ahead, left []T) {
		if len(left) == 0 {
			tell(ahead)
		}
		for i, x := range left {
			with(append(ahead[:len(ahead):len(ahead)], x), slices.Delete(slices.Clone(left), i, i+1))
		}
	}
	with(nil, l)
}

// TestSmallSets has all sets of up to four patches, with one name that is no patch's: those of up to three in all orders, and with all choices of names; those of four with one choice each.
func TestSmallSets(t *testing.T) {
	seen := map[api.Errno]int{}
	names, choice := words("a", "b", "c", "d"), 0
	for n := range 5 {
		eachSet(names[:n], words("x"), func(l []api.Patch) {
			seen[ask(t, l)]++
			related(t, l)
			if n == 4 {
				choice++
				seen[askOf(t, l, some(names, choice%15+1)...)]++
				return
			}
			eachOrder(l, func(l []api.Patch) {
				ask(t, l)
				for bits := range 16 {
					seen[askOf(t, l, some(words("c", "x", "a", "b"), bits)...)]++
				}
			})
		})
	}
	if seen[api.OK] < 1000 || seen[api.ErrLoop] < 1000 || seen[api.ErrNone] < 1000 {
		t.Errorf("seen were %v", seen)
	}
}

// related asks for P14.2 and P14.3 of a set, by what is answered alone.
func related(t *testing.T, l []api.Patch) {
	t.Helper()
	if order, e := closure.Order(l); e == api.OK {
		ordered(t, l, order)
	}
	downs, ups := map[string][]string{}, map[string][]string{}
	for _, p := range l {
		up, e := closure.Up(l, words(p.Name))
		if e != api.OK {
			t.Fatalf("Up of %s in %s is %d", p.Name, show(l), e)
		}
		ups[p.Name] = up
		if down, e := closure.Down(l, words(p.Name)); e == api.OK {
			downs[p.Name] = down
		}
	}
	for _, p := range l {
		for _, name := range ups[p.Name] {
			if !within(ups[name], ups[p.Name]) {
				t.Fatalf("in %s Up of %s is %q, that of %s, which is in it, %q", show(l), p.Name, ups[p.Name], name, ups[name])
			}
		}
		for _, name := range downs[p.Name] {
			if !within(downs[name], downs[p.Name]) || downs[name] == nil {
				t.Fatalf("in %s Down of %s is %q, that of %s, which is in it, %q", show(l), p.Name, downs[p.Name], name, downs[name])
			}
		}
		for name, down := range downs {
			if slices.Contains(down, p.Name) != slices.Contains(ups[p.Name], name) {
				t.Fatalf("in %s Down of %s is %q, but Up of %s is %q", show(l), name, down, p.Name, ups[p.Name])
			}
		}
		if downs[p.Name] != nil && !within(p.Deps, downs[p.Name]) {
			t.Fatalf("in %s Down of %s is %q", show(l), p.Name, downs[p.Name])
		}
	}
}

func within(part, whole []string) bool {
	return !slices.ContainsFunc(part, func(name string) bool { return !slices.Contains(whole, name) })
}

// ordered asks that each name is told once, behind its Deps.
func ordered(t *testing.T, l []api.Patch, order []string) {
	t.Helper()
	if !slices.Equal(all(order), all(namesOf(l))) || len(order) != len(l) {
		t.Fatalf("Order of %s is %q", show(l), order)
	}
	for _, p := range l {
		if !within(p.Deps, order[:slices.Index(order, p.Name)]) {
			t.Fatalf("Order of %s is %q: %s is ahead of one that it stands on", show(l), order, p.Name)
		}
	}
}

// anySet is a set; most of them have no loop, and none but names of their own as Deps.
func anySet(r *rand.Rand) []api.Patch {
	names := numbered(1 + r.Intn(40))
	r.Shuffle(len(names), func(i, j int) { names[i], names[j] = names[j], names[i] })
	few := 1 + r.Intn(4)
	l := row(names, func(ahead []string) []string {
		var deps []string
		for range min(len(ahead), r.Intn(few)) {
			deps = append(deps, ahead[r.Intn(len(ahead))])
		}
		return deps
	})
	if r.Intn(3) == 0 {
		p := &l[r.Intn(len(l))]
		if dep := append(names, "x", "0")[r.Intn(len(names)+2)]; dep != p.Name {
			p.Deps = all(append(p.Deps, dep))
		}
	}
	r.Shuffle(len(l), func(i, j int) { l[i], l[j] = l[j], l[i] })
	return l
}

// TestAnySets is P14.1 to P14.3, of sets that are made by chance.
func TestAnySets(t *testing.T) {
	r := rand.New(rand.NewSource(1))
	seen := map[api.Errno]int{}
	for range 3000 {
		l := anySet(r)
		seen[ask(t, l)]++
		related(t, l)
		for range 5 {
			var names []string
			for range r.Intn(4) {
				names = append(names, append(namesOf(l), "x")[r.Intn(len(l)+1)])
			}
			seen[askOf(t, l, names...)]++
		}
	}
	if seen[api.OK] < 5000 || seen[api.ErrLoop] < 200 || seen[api.ErrNone] < 200 {
		t.Errorf("seen were %v", seen)
	}
}

// TestWhateverOrder: what is answered is the same in whatever order patches stand (P14.2).
func TestWhateverOrder(t *testing.T) {
	r := rand.New(rand.NewSource(2))
	for range 300 {
		l := anySet(r)
		names := words(l[0].Name, l[len(l)/2].Name)
		order, e := closure.Order(l)
		heads, _ := closure.Heads(l)
		up, _ := closure.Up(l, names)
		down, none := closure.Down(l, names)
		for range 10 {
			r.Shuffle(len(l), func(i, j int) { l[i], l[j] = l[j], l[i] })
			got, wrong := closure.Order(l)
			same(t, "Order", l, got, wrong, order, e)
			got, wrong = closure.Heads(l)
			same(t, "Heads", l, got, wrong, heads, api.OK)
			got, wrong = closure.Up(l, names)
			same(t, "Up", l, got, wrong, up, api.OK)
			got, wrong = closure.Down(l, backward(names))
			same(t, "Down", l, got, wrong, down, none)
		}
	}
}
