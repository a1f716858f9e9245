package inventory

import (
	"slices"

	"counterpane/api"
	"counterpane/closure"
)

// chosen is the patches of a set that are wanted, by rising names; closure.Sorted's error, if it is none.
func chosen(l []api.Patch, wanted func(p api.Patch) bool) ([]api.Patch, api.Errno) {
	sorted, e := closure.Sorted(l)
	if e != api.OK {
		return nil, e
	}
	return slices.DeleteFunc(sorted, func(p api.Patch) bool { return !wanted(p) }), api.OK
}

// among tells of each name whether it is one of those.
func among(names []string) func(name string) bool {
	those := map[string]struct{}{}
	for _, name := range names {
		those[name] = struct{}{}
	}
	return func(name string) bool {
		_, is := those[name]
		return is
	}
}

func namesOf(l []api.Patch) []string {
	var names []string
	for _, p := range l {
		names = append(names, p.Name)
	}
	return names
}

// bare is patches without what they change, which has no say in what stands on what, and need not be read again for each of them.
func bare(l []api.Patch) []api.Patch {
	l = slices.Clone(l)
	for i := range l {
		l[i].Body = nil
	}
	return l
}

// alike tells whether two patches of one name are one.
func alike(p, q api.Patch) bool {
	return slices.Equal(p.Deps, q.Deps) && slices.EqualFunc(p.Body, q.Body, alikeChange)
}

func alikeChange(p, q api.Prim) bool {
	return p.Kind == q.Kind && p.Path == q.Path && p.To == q.To && p.From == q.From && p.At == q.At &&
		slices.Equal(p.Old, q.Old) && slices.Equal(p.New, q.New)
}
