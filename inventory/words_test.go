package inventory_test

import (
	"bytes"
	"fmt"
	"slices"
	"strings"
	"testing"

	"counterpane/api"
	"counterpane/closure"
	"counterpane/inventory"
	"counterpane/named"
)

// The chapter's words, told once more.

func namesOf(l []api.Patch) []string {
	var names []string
	for _, p := range l {
		names = append(names, p.Name)
	}
	return names
}

// those are the patches of l with one of those names, by rising names.
func those(l []api.Patch, names []string) []api.Patch {
	var some []api.Patch
	for _, p := range l {
		if slices.Contains(names, p.Name) {
			some = append(some, p)
		}
	}
	return byName(some)
}

// others are the patches of l with none of those names, by rising names.
func others(l []api.Patch, names []string) []api.Patch {
	return those(l, slices.DeleteFunc(namesOf(l), func(name string) bool { return slices.Contains(names, name) }))
}

func byName(l []api.Patch) []api.Patch {
	l = slices.Clone(l)
	slices.SortStableFunc(l, func(p, q api.Patch) int { return strings.Compare(p.Name, q.Name) })
	return l
}

func newestByWords(l []api.Patch, have []string) (string, api.Errno) {
	if _, e := closure.Sorted(l); e != api.OK {
		return "", e
	}
	newest, most := "", -1
	for _, p := range l {
		if p.Body != nil && len(p.Body) > 0 || !slices.Contains(have, p.Name) {
			continue
		}
		down, e := closure.Down(l, words(p.Name))
		if e != api.OK || len(down) < most || len(down) == most && newest < p.Name {
			continue
		}
		newest, most = p.Name, len(down)
	}
	return newest, api.OK
}

func sinceByWords(l []api.Patch, tag string) ([]string, api.Errno) {
	if _, e := closure.Sorted(l); e != api.OK {
		return nil, e
	}
	if tag == "" {
		return namesOf(byName(l)), api.OK
	}
	down, e := closure.Down(l, words(tag))
	if e != api.OK {
		return nil, e
	}
	return namesOf(others(l, down)), api.OK
}

func wantsByWords(l []api.Patch, have, names []string) ([]api.Patch, api.Errno) {
	down, e := closure.Down(l, names)
	if e != api.OK {
		return nil, e
	}
	return others(those(l, down), have), api.OK
}

func withoutByWords(l []api.Patch, names []string) ([]api.Patch, api.Errno) {
	up, e := closure.Up(l, names)
	if e != api.OK {
		return nil, e
	}
	return others(l, up), api.OK
}

func joinByWords(l, more []api.Patch) ([]api.Patch, api.Errno) {
	for _, l := range [][]api.Patch{l, more} {
		if _, e := closure.Sorted(l); e != api.OK {
			return nil, api.ErrArg
		}
	}
	for _, p := range l {
		for _, q := range more {
			if p.Name == q.Name && !alike(p, q) {
				return nil, api.ErrClash
			}
		}
	}
	both := byName(slices.Concat(l, others(more, namesOf(l))))
	if _, e := closure.Order(both); e != api.OK {
		return nil, e
	}
	return both, api.OK
}

// alike tells whether two right patches are one, by their bytes.
func alike(p, q api.Patch) bool {
	a, e := named.Put(p)
	b, f := named.Put(q)
	return e == f && bytes.Equal(a, b)
}

// show tells something, at least its beginning.
func show(what any) string { return fmt.Sprintf("%.300s", fmt.Sprintf("%+v", what)) }

// same asks for one answer of patches and an error, of those arguments.
func same(t *testing.T, call string, args []any, got []api.Patch, e api.Errno, want []api.Patch, wanted api.Errno) {
	t.Helper()
	if e != wanted || !slices.EqualFunc(got, want, alike) {
		t.Fatalf("%s of %s is %s, %d; want %s, %d", call, show(args), show(got), e, show(want), wanted)
	}
}

func askNewest(t *testing.T, l []api.Patch, have ...string) (string, api.Errno) {
	t.Helper()
	got, e := inventory.Newest(l, have)
	if want, wanted := newestByWords(l, have); got != want || e != wanted {
		t.Fatalf("Newest of %s, %.100q is %q, %d; want %q, %d", show(l), have, got, e, want, wanted)
	}
	return got, e
}

func askSince(t *testing.T, l []api.Patch, tag string) ([]string, api.Errno) {
	t.Helper()
	got, e := inventory.Since(l, tag)
	if want, wanted := sinceByWords(l, tag); !slices.Equal(got, want) || e != wanted {
		t.Fatalf("Since of %s, %q is %s, %d; want %s, %d", show(l), tag, show(got), e, show(want), wanted)
	}
	return got, e
}

func askWants(t *testing.T, l []api.Patch, have, names []string) ([]api.Patch, api.Errno) {
	t.Helper()
	got, e := inventory.Wants(l, have, names)
	want, wanted := wantsByWords(l, have, names)
	same(t, "Wants", []any{l, have, names}, got, e, want, wanted)
	return got, e
}

func askWithout(t *testing.T, l []api.Patch, names ...string) ([]api.Patch, api.Errno) {
	t.Helper()
	got, e := inventory.Without(l, names)
	want, wanted := withoutByWords(l, names)
	same(t, "Without", []any{l, names}, got, e, want, wanted)
	return got, e
}

func askJoin(t *testing.T, l, more []api.Patch) ([]api.Patch, api.Errno) {
	t.Helper()
	got, e := inventory.Join(l, more)
	want, wanted := joinByWords(l, more)
	same(t, "Join", []any{l, more}, got, e, want, wanted)
	return got, e
}
