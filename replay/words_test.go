package replay_test

import (
	"fmt"
	"slices"
	"testing"

	"counterpane/api"
	"counterpane/commute"
	"counterpane/named"
	"counterpane/prim"
	"counterpane/replay"
)

// The chapter's words, told once more: by Commute of two neighbours alone.

// marked is a change, and whether it is to be first.
type marked struct {
	api.Prim
	first bool
}

func allMarked(l []api.Prim, first bool) []marked {
	var all []marked
	for _, p := range l {
		all = append(all, marked{p, first})
	}
	return all
}

// sift has two neighbours go past one another, as long as there are two of which the second alone is to be first.
func sift(all []marked) (ahead, behind []api.Prim, is bool) {
	all = slices.Clone(all)
	for i := 0; i+1 < len(all); i++ {
		if all[i].first || !all[i+1].first {
			continue
		}
		q, p, can := commute.Commute(all[i].Prim, all[i+1].Prim)
		if !can {
			return nil, nil, false
		}
		all[i], all[i+1] = marked{q, true}, marked{p, false}
		i = max(i-2, -1)
	}
	for _, p := range all {
		if p.first {
			ahead = append(ahead, p.Prim)
		} else {
			behind = append(behind, p.Prim)
		}
	}
	return ahead, behind, true
}

// undone is what undoes a change.
func undone(p api.Prim) api.Prim {
	switch p.Kind {
	case 1, 3, 5:
		p.Kind++
	case 2, 4, 6:
		p.Kind--
	case 7:
		p.Old, p.New = p.New, p.Old
	case 8, 9:
		p.From, p.To = p.To, p.From
	case 10:
		p.Path, p.To = p.To, p.Path
	default:
		return api.Prim{}
	}
	return p
}

func mergeByWords(others, l []api.Prim) ([]api.Prim, bool) {
	var back []api.Prim
	for _, p := range slices.Backward(others) {
		back = append(back, undone(p))
	}
	form, _, is := sift(append(allMarked(back, false), allMarked(l, true)...))
	return form, is
}

func splitByWords(l [][]api.Prim, first []bool) (ahead, behind []api.Prim, is bool) {
	var all []marked
	for i, row := range l {
		all = append(all, allMarked(row, i < len(first) && first[i])...)
	}
	return sift(all)
}

func isSet(l []api.Patch) bool {
	names := map[string]bool{}
	for _, p := range l {
		if !named.Right(p) {
			return false
		}
		names[p.Name] = true
	}
	return len(l) <= 256 && len(names) == len(l)
}

// orderByWords is the patches of a set, each behind those that it stands on, and the least name first.
func orderByWords(l []api.Patch) ([]api.Patch, api.Errno) {
	if !isSet(l) {
		return nil, api.ErrArg
	}
	var order []api.Patch
	told := map[string]bool{}
	untold := func(name string) bool { return !told[name] }
	for range l {
		least := -1
		for i, p := range l {
			if untold(p.Name) && (least < 0 || p.Name < l[least].Name) && !slices.ContainsFunc(p.Deps, untold) {
				least = i
			}
		}
		if least < 0 {
			return nil, api.ErrLoop
		}
		order = append(order, l[least])
		told[l[least].Name] = true
	}
	return order, api.OK
}

// contextByWords is all names that p stands on.
func contextByWords(l []api.Patch, p api.Patch) map[string]bool {
	context := map[string]bool{}
	for _, dep := range p.Deps {
		context[dep] = true
	}
	for before := 0; before < len(context); {
		before = len(context)
		for _, q := range l {
			if context[q.Name] {
				for _, dep := range q.Deps {
					context[dep] = true
				}
			}
		}
	}
	return context
}

// whys counts why patches are done, or left.
type whys struct{ done, dep, split, merge, tree int }

func replayByWords(l []api.Patch) (s api.State, e api.Errno, w whys) {
	order, e := orderByWords(l)
	if e != api.OK {
		return api.State{}, e, w
	}
	for _, p := range order {
		context, first := contextByWords(l, p), []bool{}
		for _, name := range s.Done {
			first = append(first, context[name])
		}
		_, others, split := splitByWords(s.Forms, first)
		form, merged := mergeByWords(others, p.Body)
		made, e, _ := prim.All(s.Tree, form)
		switch {
		case slices.ContainsFunc(p.Deps, func(dep string) bool { return slices.Contains(s.Left, dep) }):
			w.dep++
		case !split:
			w.split++
		case !merged:
			w.merge++
		case e != api.OK:
			w.tree++
		default:
			w.done++
			s.Tree, s.Done, s.Forms = made, append(s.Done, p.Name), append(s.Forms, form)
			continue
		}
		s.Left = append(s.Left, p.Name)
	}
	slices.Sort(s.Left)
	return s, api.OK, w
}

func alikeChange(p, q api.Prim) bool {
	return p.Kind == q.Kind && p.Path == q.Path && p.To == q.To && p.From == q.From && p.At == q.At && slices.Equal(p.Old, q.Old) && slices.Equal(p.New, q.New)
}

func alikeRow(l, m []api.Prim) bool { return slices.EqualFunc(l, m, alikeChange) }

func alikeTree(l, m []api.Entry) bool {
	return slices.EqualFunc(l, m, func(x, y api.Entry) bool {
		return x.Path == y.Path && x.Kind == y.Kind && x.Data == y.Data && slices.Equal(x.Lines, y.Lines)
	})
}

func alikeState(s, r api.State) bool {
	return alikeTree(s.Tree, r.Tree) && slices.Equal(s.Done, r.Done) && slices.Equal(s.Left, r.Left) && slices.EqualFunc(s.Forms, r.Forms, alikeRow)
}

// show tells something, at least its beginning.
func show(what any) string { return fmt.Sprintf("%.500s", fmt.Sprintf("%+v", what)) }

// askMerge holds Merge against the words, and tells whether it can be.
func askMerge(t *testing.T, others, l []api.Prim) ([]api.Prim, bool) {
	t.Helper()
	got, is := replay.Merge(others, l)
	want, may := mergeByWords(others, l)
	if is != may || !alikeRow(got, want) {
		t.Fatalf("Merge(%s, %s) is %s, %t; want %s, %t", show(others), show(l), show(got), is, show(want), may)
	}
	return got, is
}

// askSplit holds Split against the words, and tells whether it can be.
func askSplit(t *testing.T, l [][]api.Prim, first ...bool) bool {
	t.Helper()
	ahead, behind, is := replay.Split(l, first)
	x, y, may := splitByWords(l, first)
	if is != may || !alikeRow(ahead, x) || !alikeRow(behind, y) {
		t.Fatalf("Split(%s, %v) is %s, %s, %t; want %s, %s, %t", show(l), first, show(ahead), show(behind), is, show(x), show(y), may)
	}
	return is
}

// ask holds Replay against the words and P15.5; the answer is what it makes, and why.
func ask(t *testing.T, l []api.Patch) (api.State, whys) {
	t.Helper()
	got, e := replay.Replay(l)
	want, wanted, w := replayByWords(l)
	if e != wanted || !alikeState(got, want) {
		t.Fatalf("Replay(%s) is %s, %d; want %s, %d", show(l), show(got), e, show(want), wanted)
	}
	if e == api.OK {
		stands(t, l, got)
	}
	return got, w
}

// stands asks P15.5: what is done stands on done ones alone; done and left are all.
func stands(t *testing.T, l []api.Patch, s api.State) {
	t.Helper()
	var names []string
	for _, p := range l {
		names = append(names, p.Name)
		if slices.Contains(s.Done, p.Name) && slices.ContainsFunc(p.Deps, func(dep string) bool { return !slices.Contains(s.Done, dep) }) {
			t.Fatalf("Replay(%s) has %s done, and not all that it stands on: %s", show(l), p.Name, show(s.Done))
		}
	}
	all := slices.Concat(s.Done, s.Left)
	slices.Sort(all)
	slices.Sort(names)
	if !slices.Equal(all, names) || !slices.IsSorted(s.Left) || len(s.Forms) != len(s.Done) {
		t.Fatalf("Replay(%s) has %s done, %s left, and %d forms", show(l), show(s.Done), show(s.Left), len(s.Forms))
	}
}
