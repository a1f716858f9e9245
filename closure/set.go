package closure

import (
	"maps"
	"slices"

	"counterpane/api"
	"counterpane/named"
)

// set is patches by their names.
type set map[string]api.Patch

// setOf has those patches, if they are a set.
func setOf(l []api.Patch) (set, bool) {
	if len(l) > api.MaxPatches {
		return nil, false
	}
	s := set{}
	for _, p := range l {
		if _, twice := s[p.Name]; twice || !named.Right(p) {
			return nil, false
		}
		s[p.Name] = p
	}
	return s, true
}

// above has, for each name, the patches of which it is one of the Deps, in no order.
func (s set) above() map[string][]string {
	above := map[string][]string{}
	for name, p := range s {
		for _, dep := range p.Deps {
			above[dep] = append(above[dep], name)
		}
	}
	return above
}

// reached is names, and all that is next to one that is told, rising; ErrNone, if one of these is no patch of the set.
func (s set) reached(names []string, next func(name string) []string) ([]string, api.Errno) {
	told := map[string]struct{}{}
	var tell func(names []string) bool
	tell = func(names []string) bool {
		for _, name := range names {
			if _, is := s[name]; !is {
				return false
			}
			// Patches may stand on one another: none is gone after twice.
			if _, already := told[name]; already {
				continue
			}
			told[name] = struct{}{}
			if !tell(next(name)) {
				return false
			}
		}
		return true
	}
	if !tell(names) {
		return nil, api.ErrNone
	}
	return rising(told), api.OK
}

// rising is the names that stand in a map.
func rising[T any](m map[string]T) []string { return slices.Sorted(maps.Keys(m)) }

// copied is a patch that shares no memory with p.
func copied(p api.Patch) api.Patch {
	p.Deps, p.Body = slices.Clone(p.Deps), slices.Clone(p.Body)
	for i, x := range p.Body {
		p.Body[i].Old, p.Body[i].New = slices.Clone(x.Old), slices.Clone(x.New)
	}
	return p
}
