package closure_test

import (
	"fmt"
	"maps"
	"slices"
	"testing"

	"counterpane/api"
	"counterpane/closure"
	"counterpane/named"
)

// The chapter's words, told once more.

func namesOf(l []api.Patch) []string {
	var names []string
	for _, p := range l {
		names = append(names, p.Name)
	}
	return names
}

func isSet(l []api.Patch) bool {
	wrong := func(p api.Patch) bool { return !named.Right(p) }
	return len(l) <= 256 && len(all(namesOf(l))) == len(l) && !slices.ContainsFunc(l, wrong)
}

// all is those names, rising, each once.
func all(names []string) []string {
	l := slices.Clone(names)
	slices.Sort(l)
	return slices.Compact(l)
}

func orderByWords(l []api.Patch) ([]string, api.Errno) {
	if !isSet(l) {
		return nil, api.ErrArg
	}
	var order []string
	told := map[string]bool{}
	untold := func(name string) bool { return !told[name] }
	for range l {
		least := ""
		for _, p := range l {
			if untold(p.Name) && (least == "" || p.Name < least) && !slices.ContainsFunc(p.Deps, untold) {
				least = p.Name
			}
		}
		if least == "" {
			return nil, api.ErrLoop
		}
		order = append(order, least)
		told[least] = true
	}
	return order, api.OK
}

// depsOf has the Deps of each name.
func depsOf(l []api.Patch) map[string][]string {
	deps := map[string][]string{}
	for _, p := range l {
		deps[p.Name] = append([]string{}, p.Deps...)
	}
	return deps
}

func downByWords(l []api.Patch, names []string) ([]string, api.Errno) {
	if !isSet(l) {
		return nil, api.ErrArg
	}
	deps, down := depsOf(l), all(names)
	for {
		more := slices.Clone(down)
		for _, name := range down {
			if deps[name] == nil {
				return nil, api.ErrNone
			}
			more = append(more, deps[name]...)
		}
		if more = all(more); len(more) == len(down) {
			return down, api.OK
		}
		down = more
	}
}

func upByWords(l []api.Patch, names []string) ([]string, api.Errno) {
	if !isSet(l) {
		return nil, api.ErrArg
	}
	deps, up := depsOf(l), map[string]bool{}
	for _, name := range names {
		if deps[name] == nil {
			return nil, api.ErrNone
		}
		up[name] = true
	}
	for before := -1; before < len(up); {
		before = len(up)
		for name := range deps {
			if slices.ContainsFunc(deps[name], func(dep string) bool { return up[dep] }) {
				up[name] = true
			}
		}
	}
	return slices.Sorted(maps.Keys(up)), api.OK
}

func headsByWords(l []api.Patch) ([]string, api.Errno) {
	if !isSet(l) {
		return nil, api.ErrArg
	}
	heads := all(namesOf(l))
	return slices.DeleteFunc(heads, func(name string) bool {
		return slices.ContainsFunc(l, func(p api.Patch) bool { return slices.Contains(p.Deps, name) })
	}), api.OK
}

func alikePrim(p, q api.Prim) bool {
	return p.Kind == q.Kind && p.Path == q.Path && p.To == q.To && p.From == q.From && p.At == q.At && slices.Equal(p.Old, q.Old) && slices.Equal(p.New, q.New)
}

func alike(p, q api.Patch) bool {
	return p.Name == q.Name && slices.Equal(p.Deps, q.Deps) && slices.EqualFunc(p.Body, q.Body, alikePrim)
}

// show tells something, at least its beginning.
func show(what any) string { return fmt.Sprintf("%.300s", fmt.Sprintf("%+v", what)) }

// same asks for one answer of names and an error.
func same(t *testing.T, what string, l []api.Patch, got []string, e api.Errno, want []string, wanted api.Errno) {
	t.Helper()
	if e != wanted || !slices.Equal(got, want) {
		t.Fatalf("%s of %s is %s, %d; want %s, %d", what, show(l), show(got), e, show(want), wanted)
	}
}

// ask holds what is answered of patches alone against the words; the answer is Order's error.
func ask(t *testing.T, l []api.Patch) api.Errno {
	t.Helper()
	sorted, e := closure.Sorted(l)
	switch {
	case !isSet(l):
		if e != api.ErrArg || len(sorted) != 0 {
			t.Fatalf("Sorted of %s is %s, %d; want ErrArg alone", show(l), show(sorted), e)
		}
	case e != api.OK || !slices.Equal(namesOf(sorted), all(namesOf(l))):
		t.Fatalf("Sorted of %s is %s, %d", show(l), show(sorted), e)
	default:
		for _, p := range l {
			if !slices.ContainsFunc(sorted, func(q api.Patch) bool { return alike(p, q) }) {
				t.Fatalf("Sorted of %s has no %s", show(l), show(p))
			}
		}
	}
	heads, e := closure.Heads(l)
	want, wanted := headsByWords(l)
	same(t, "Heads", l, heads, e, want, wanted)
	order, e := closure.Order(l)
	want, wanted = orderByWords(l)
	same(t, "Order", l, order, e, want, wanted)
	return e
}

// askOf holds what is answered of patches and names against the words; the answer is Down's error.
func askOf(t *testing.T, l []api.Patch, names ...string) api.Errno {
	t.Helper()
	up, e := closure.Up(l, names)
	want, wanted := upByWords(l, names)
	same(t, fmt.Sprintf("Up of %.100q", names), l, up, e, want, wanted)
	down, e := closure.Down(l, names)
	want, wanted = downByWords(l, names)
	same(t, fmt.Sprintf("Down of %.100q", names), l, down, e, want, wanted)
	return e
}
