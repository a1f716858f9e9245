package replay

import (
	"slices"

	"counterpane/api"
)

// row is one that is told from its end on: its room is there from the beginning, so that what stands need not make way for what comes ahead of it.
type row struct {
	room []api.Prim
	at   int
}

// rowFor is an empty one with room for all of l.
func rowFor(l [][]api.Prim) *row {
	n := 0
	for _, changes := range l {
		n += len(changes)
	}
	return &row{make([]api.Prim, n), n}
}

// put has changes stand ahead of all that is told.
func (r *row) put(changes []api.Prim) {
	r.at -= len(changes)
	copy(r.room[r.at:], changes)
}

// told is all that was put.
func (r *row) told() []api.Prim { return r.room[r.at:] }

// tellAnew has as many changes stand in place of those that are told.
func (r *row) tellAnew(changes []api.Prim) { copy(r.told(), changes) }

// copied is changes that share no memory with l.
func copied(l []api.Prim) []api.Prim {
	changes := slices.Clone(l)
	for i, p := range changes {
		changes[i].Old, changes[i].New = slices.Clone(p.Old), slices.Clone(p.New)
	}
	return changes
}
