package prim

import (
	"maps"
	"slices"

	"counterpane/api"
	"counterpane/path"
)

// things are what lies at each path of a tree.
type things map[string]api.Entry

// thingsOf has those of a tree, and shares no memory with it.
func thingsOf(l []api.Entry) things {
	t := things{}
	for _, x := range l {
		x.Lines = slices.Clone(x.Lines)
		t[x.Path] = x
	}
	return t
}

// list is the things as a tree: by rising paths.
func (t things) list() []api.Entry {
	var l []api.Entry
	for _, at := range slices.Sorted(maps.Keys(t)) {
		l = append(l, t[at])
	}
	return l
}

// has is OK if a thing of that kind lies at a path.
func (t things) has(at string, kind int) api.Errno {
	x, is := t[at]
	if !is {
		return api.ErrGone
	}
	if x.Kind != kind {
		return api.ErrKind
	}
	return api.OK
}

// free is OK if something can come to lie at a path.
func (t things) free(at string) api.Errno {
	if _, is := t[at]; is {
		return api.ErrThere
	}
	parent, is := path.Parent(at)
	if !is {
		return api.OK
	}
	return t.has(parent, api.KindDir)
}

// empty tells whether what lies at a path has nothing, and nothing lies in it.
func (t things) empty(at string) bool {
	x := t[at]
	return len(x.Lines) == 0 && x.Data == "" && len(t.within(at)) == 1
}

// within is what lies at a path, and all that lies in it, in no order.
func (t things) within(at string) []api.Entry {
	var l []api.Entry
	for _, x := range t {
		if path.Within(x.Path, at) {
			l = append(l, x)
		}
	}
	return l
}
