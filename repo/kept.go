package repo

import (
	"slices"
	"strconv"
	"strings"

	"counterpane/api"
	"counterpane/closure"
	"counterpane/inventory"
	"counterpane/named"
	"counterpane/record"
	"counterpane/replay"
	"counterpane/seq"
	"counterpane/tree"
)

const digits = "0123456789"

// kept is what a disk keeps of a repository, and the state that it makes. Its lists are never written to, so that a later one may share them.
type kept struct {
	id      string
	count   int
	patches []api.Patch // by rising names
	state   api.State
}

// Id is its name.
func (k kept) Id() string { return k.id }

// Count is how many patches it made.
func (k kept) Count() int { return k.count }

// Patches are all, by rising names.
func (k kept) Patches() []api.Patch {
	// They are a set, of which this is a copy.
	l, _ := closure.Sorted(k.patches)
	return l
}

// State is what they make.
func (k kept) State() api.State { return copied(k.state) }

// with has that count, and those patches, by rising names.
func (k kept) with(count int, l []api.Patch) kept {
	// Patches that may be there have an order, so that they make a state.
	state, _ := replay.Replay(l)
	return kept{k.id, count, l, state}
}

// recorded has one patch more, that makes now of the tree.
func (k kept) recorded(now []api.Entry) (kept, api.Errno) {
	if !tree.Right(now) {
		return kept{}, api.ErrArg
	}
	next, e := k.withMore(func() ([]api.Prim, api.Errno) {
		changes, e := record.Record(k.state.Tree, now)
		body := seq.Coalesce(changes)
		if e == api.OK && len(body) == 0 {
			e = api.ErrNone
		}
		return body, e
	})
	if e != api.OK {
		return kept{}, e
	}
	// Where the new one makes room, what was left may be done behind it.
	if !slices.EqualFunc(next.state.Tree, now, alike) {
		return kept{}, api.ErrSame
	}
	return next, api.OK
}

// withMore has one patch more of its own, that stands on all that is done, and makes the changes that are told.
func (k kept) withMore(changes func() ([]api.Prim, api.Errno)) (kept, api.Errno) {
	if k.count >= api.MaxCount || len(k.patches) >= api.MaxPatches {
		return kept{}, api.ErrTooMany
	}
	body, e := changes()
	if e != api.OK {
		return kept{}, e
	}
	p := api.Patch{Name: k.name(k.count + 1), Deps: k.heads(), Body: body}
	if !named.Right(p) {
		return kept{}, api.ErrTooMany
	}
	l, e := closure.Sorted(append(slices.Clone(k.patches), p))
	return k.with(k.count+1, l), e
}

// heads are the names of those that are done, and that none of these stands on.
func (k kept) heads() []string {
	// What stands on one that is left is left, too, so that these are all that are done, and nothing lacks.
	done, _ := inventory.Without(k.patches, k.state.Left)
	l, _ := closure.Heads(done)
	return l
}

// name is its own name of a number.
func (k kept) name(n int) string { return k.id + "." + strconv.Itoa(n) }

// mayHave tells whether those patches may be there.
func (k kept) mayHave(l []api.Patch) bool {
	_, e := closure.Order(l)
	return e == api.OK && !slices.ContainsFunc(l, k.above)
}

// above tells whether a patch has an own name that was not made yet.
func (k kept) above(p api.Patch) bool {
	number, own := strings.CutPrefix(p.Name, k.id+".")
	if !own || strings.HasPrefix(number, "0") || strings.Trim(number, digits) != "" {
		return false
	}
	// A label has room for numbers that an int has not.
	last := strconv.Itoa(k.count)
	return len(number) > len(last) || len(number) == len(last) && number > last
}

func isId(s string) bool {
	// A label, without the byte that stands behind an id in its own names.
	return len(s) <= api.MaxId && named.Label(s) && !strings.Contains(s, ".")
}

func alike(x, y api.Entry) bool {
	return x.Path == y.Path && x.Kind == y.Kind && slices.Equal(x.Lines, y.Lines) && x.Data == y.Data
}

// copied is a state that shares no memory with s.
func copied(s api.State) api.State {
	c := api.State{Tree: slices.Clone(s.Tree), Done: slices.Clone(s.Done), Left: slices.Clone(s.Left), Forms: slices.Clone(s.Forms)}
	for i, x := range c.Tree {
		c.Tree[i].Lines = slices.Clone(x.Lines)
	}
	for i, form := range c.Forms {
		c.Forms[i] = slices.Clone(form)
		for j, p := range form {
			c.Forms[i][j].Old, c.Forms[i][j].New = slices.Clone(p.Old), slices.Clone(p.New)
		}
	}
	return c
}
