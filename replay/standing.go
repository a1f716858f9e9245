package replay

import (
	"counterpane/api"
	"counterpane/prim"
)

// standing is what the patches make that were asked so far.
type standing struct {
	api.State
	places   map[string]int // by the names of those that are done, their places in Done
	contexts [][]bool       // for each of these, which of those ahead of it are its context
}

// do has a patch be done, whose Deps were all asked; false: it is left, and all is as it was.
func (s *standing) do(p api.Patch) bool {
	var context []bool
	var others, form []api.Prim
	var made []api.Entry
	can := allOf(
		func() (is bool) {
			context, is = s.contextOf(p)
			return is
		},
		func() (is bool) {
			_, others, is = Split(s.Forms, context)
			return is
		},
		func() (is bool) {
			form, is = Merge(others, p.Body)
			return is
		},
		func() bool {
			var e api.Errno
			made, e, _ = prim.All(s.Tree, form)
			return e == api.OK
		},
	)
	if !can {
		return false
	}
	s.places[p.Name] = len(s.Done)
	s.contexts = append(s.contexts, context)
	s.Tree, s.Done, s.Forms = made, append(s.Done, p.Name), append(s.Forms, form)
	return true
}

// contextOf tells, by their places, which of those that are done a patch stands on; false: it stands on one that is left.
func (s *standing) contextOf(p api.Patch) ([]bool, bool) {
	context := make([]bool, len(s.Done))
	for _, dep := range p.Deps {
		at, done := s.places[dep]
		if !done {
			return nil, false
		}
		context[at] = true
		for i, on := range s.contexts[at] {
			context[i] = context[i] || on
		}
	}
	return context, true
}

// allOf asks steps one behind the other, up to the first that cannot be; true: all could.
func allOf(steps ...func() bool) bool {
	for _, can := range steps {
		if !can() {
			return false
		}
	}
	return true
}
