package repo_test

import (
	"bytes"
	"fmt"
	"math/rand"
	"slices"
	"strings"
	"testing"

	"counterpane/api"
	"counterpane/inventory"
	"counterpane/repo"
)

func pick[T any](r *rand.Rand, l ...T) T { return l[r.Intn(len(l))] }

// anyLines are a few, of which some are those of l.
func anyLines(r *rand.Rand, l []string) []string {
	var some []string
	for _, line := range l {
		if r.Intn(5) > 0 {
			some = append(some, line)
		}
		if r.Intn(5) == 0 {
			some = append(some, pick(r, "x", "y", "z", "x+y", ""))
		}
	}
	if r.Intn(2) == 0 {
		some = append(some, pick(r, "x", "y", "z"))
	}
	return some
}

// anyThing is what may lie at a path.
func anyThing(r *rand.Rand, at string) api.Entry {
	switch r.Intn(4) {
	case 0:
		return dir(at)
	case 1:
		return data(at, pick(r, "", "x", "y"))
	}
	return api.Entry{Path: at, Kind: api.KindText, Lines: anyLines(r, words("x", "y"))}
}

// anyTree is like another one in some things.
func anyTree(r *rand.Rand, old []api.Entry) []api.Entry {
	there := map[string]api.Entry{}
	for _, x := range old {
		there[x.Path] = x
	}
	var l []api.Entry
	for _, at := range words("a", "a/b", "a/b/c", "a/c", "d", "t", "u") {
		if i := strings.LastIndex(at, "/"); i >= 0 && !slices.ContainsFunc(l, func(x api.Entry) bool { return x.Path == at[:i] && x.Kind == api.KindDir }) {
			continue
		}
		x, is := there[at]
		switch {
		case r.Intn(12) == 0:
		case is && x.Kind == api.KindText && r.Intn(2) == 0:
			l = append(l, api.Entry{Path: at, Kind: api.KindText, Lines: anyLines(r, x.Lines)})
		case is && r.Intn(8) > 0:
			l = append(l, x)
		case r.Intn(3) == 0:
			l = append(l, anyThing(r, at))
		}
	}
	return l
}

// anyNames are some of those of patches, and now and then one of none.
func anyNames(r *rand.Rand, l []api.Patch) []string {
	var names []string
	for _, p := range l {
		if r.Intn(len(l)) == 0 {
			names = append(names, p.Name)
		}
	}
	if r.Intn(8) == 0 {
		names = append(names, pick(r, "a.1", "b.2", "c.99", ""))
	}
	return names
}

// script is some repositories that make patches, and give them to one another; ledger is the bytes of each patch that was seen, made the names that were answered.
type script struct {
	r      *rand.Rand
	places []*pair
	ledger map[string][]byte
	made   map[string]int
	seen   map[string]int
}

func newScript(t *testing.T, seed int64, ids ...string) *script {
	t.Helper()
	s := &script{rand.New(rand.NewSource(seed)), nil, map[string][]byte{}, map[string]int{}, map[string]int{}}
	for _, id := range ids {
		s.places = append(s.places, begun(t, id))
	}
	return s
}

// look asks P18.4: no name is one of two patches.
func (s *script) look(t *testing.T, x *pair) {
	t.Helper()
	l := x.r.Patches()
	for i, b := range bytesOf(l) {
		name := l[i].Name
		if was, is := s.ledger[name]; is && !bytes.Equal(was, b) {
			t.Fatalf("%s is %q, and was %q", name, b, was)
		}
		s.ledger[name] = b
	}
}

// answered asks P18.2 and P18.4 of what a command answered that makes a patch.
func (s *script) answered(t *testing.T, x *pair, was []api.Patch, name string, e api.Errno, taken int) {
	t.Helper()
	if e != api.OK {
		if !slices.EqualFunc(x.r.Patches(), was, samePatch) {
			t.Fatalf("with error %d %s became %s", e, show(was), show(x.r.Patches()))
		}
		return
	}
	s.made[name]++
	l := x.r.Patches()
	is := func(p api.Patch) bool { return p.Name == name }
	if s.made[name] > 1 || name != fmt.Sprintf("%s.%d", x.r.Id(), x.r.Count()) || len(l) != len(was)+1-taken || slices.ContainsFunc(was, is) || !slices.ContainsFunc(l, is) {
		t.Fatalf("%s is made: %d times; %s became %s", name, s.made[name], namesOf(was), namesOf(l))
	}
}

// give has a place apply what another one has of some names, and what these stand on.
func (s *script) give(t *testing.T, x, from *pair) {
	t.Helper()
	l := from.r.Patches()
	wants, e := inventory.Wants(l, nil, anyNames(s.r, l))
	if e != api.OK {
		return
	}
	if s.r.Intn(6) == 0 && len(wants) > 0 {
		wants = slices.Delete(wants, 0, 1)
	}
	s.seen[told("Apply", x.apply(t, wants...))]++
}

// step does one command of a place, with or without power for all of it.
func (s *script) step(t *testing.T) {
	t.Helper()
	x := pick(s.r, s.places...)
	if s.r.Intn(4) == 0 {
		x.fuse(s.r.Intn(14))
	}
	was, now := x.r.Patches(), anyTree(s.r, x.r.State().Tree)
	switch s.r.Intn(8) {
	case 0, 1, 2:
		name, e := x.record(t, now)
		s.seen[told("Record", e)]++
		s.answered(t, x, was, name, e, 0)
		if e == api.OK && !sameTree(x.r.State().Tree, now) {
			t.Fatalf("what was recorded is %s; want %s", show(x.r.State().Tree), show(now))
		}
	case 3:
		name, e := x.tag(t)
		s.seen[told("Tag", e)]++
		s.answered(t, x, was, name, e, 0)
	case 4:
		name, e := x.amend(t, append(anyNames(s.r, was), "a.1")[0], now)
		s.seen[told("Amend", e)]++
		s.answered(t, x, was, name, e, 1)
	case 5:
		s.seen[told("Unrecord", x.unrecord(t, anyNames(s.r, was)...))]++
	default:
		s.give(t, x, pick(s.r, s.places...))
	}
	if x.d.Down() || s.r.Intn(10) == 0 {
		x.crash(kept(s.r.Intn(1<<12), x.d.Loose()))
		if e := x.open(t); e != api.OK {
			t.Fatalf("Open is %d", e)
		}
		s.seen["Open"]++
	}
	s.look(t, x)
}

// add has other count what was seen here.
func (s *script) add(other map[string]int) {
	for what, n := range s.seen {
		other[what] += n
	}
}

// oneState asks P18.5: all places apply what all have, each in another order, and then have one State; it tells how many are left there.
func (s *script) oneState(t *testing.T) int {
	t.Helper()
	var all []api.Patch
	for _, x := range s.places {
		var e api.Errno
		if all, e = inventory.Join(all, x.r.Patches()); e != api.OK {
			t.Fatalf("Join is %d", e)
		}
	}
	first := s.places[0].r
	for _, x := range s.places {
		x.crash(nil)
		s.r.Shuffle(len(all), func(i, j int) { all[i], all[j] = all[j], all[i] })
		if e := x.r.Apply(all); e != api.OK {
			t.Fatalf("Apply of %s is %d", namesOf(all), e)
		}
		if !slices.EqualFunc(x.r.Patches(), first.Patches(), samePatch) || !sameState(x.r.State(), first.State()) {
			t.Fatalf("%s makes %s at one place, %s at another one", namesOf(first.Patches()), show(first.State()), show(x.r.State()))
		}
		o, e := repo.Open(x.d)
		if e != api.OK || !sameState(o.State(), first.State()) {
			t.Fatalf("opened anew (%d) it is %s; want %s", e, show(o.State()), show(first.State()))
		}
	}
	return len(first.State().Left)
}

// TestScripts asks P18.2, P18.4 and P18.5 of seeded scripts, each of whose commands is held against the words.
func TestScripts(t *testing.T) {
	all := map[string]int{}
	left := 0
	for seed := range int64(150) {
		s := newScript(t, seed, "a", "b-2", "c")
		for range 60 {
			s.step(t)
		}
		s.add(all)
		left += s.oneState(t)
	}
	for what, least := range map[string]int{
		"Record": 1000, "Record !12": 5, "Record !13": 50, "Tag": 300, "Tag !13": 20, "Amend": 100, "Amend !12": 20, "Amend !81": 50, "Amend !13": 5,
		"Unrecord": 300, "Unrecord !12": 20, "Unrecord !13": 20, "Apply": 300, "Apply !141": 20, "Apply !13": 20, "Open": 500,
	} {
		if all[what] < least {
			t.Errorf("%s was seen %d times", what, all[what])
		}
	}
	if left < 100 {
		t.Errorf("only %d were left", left)
	}
}

// TestAppliedAgain: what was unrecorded can be applied once more, and makes the same; its name is made by nobody else.
func TestAppliedAgain(t *testing.T) {
	for seed := range int64(60) {
		s := newScript(t, seed, "a", "b")
		for range 25 {
			s.step(t)
		}
		for _, x := range s.places {
			x.crash(nil)
			x.open(t)
			was, state := x.r.Patches(), x.r.State()
			for _, p := range was {
				if e := x.r.Unrecord(words(p.Name)); e != api.OK {
					t.Fatalf("Unrecord of %s is %d", p.Name, e)
				}
				name, e := x.r.Tag()
				if e != api.OK || s.made[name] > 0 {
					t.Fatalf("Tag is %q, %d", name, e)
				}
				x.r.Unrecord(words(name))
				if e := x.r.Apply(was); e != api.OK {
					t.Fatalf("Apply is %d", e)
				}
				if !slices.EqualFunc(x.r.Patches(), was, samePatch) || !sameState(x.r.State(), state) {
					t.Fatalf("without %s, and with it, %s is %s", p.Name, show(was), show(x.r.Patches()))
				}
			}
		}
	}
}

// TestAnyOrder: one set, applied patch by patch in orders in which each finds what it stands on, or at once, has one State.
func TestAnyOrder(t *testing.T) {
	for seed := range int64(40) {
		s := newScript(t, seed, "a", "b")
		for range 30 {
			s.step(t)
		}
		l, e := inventory.Join(s.places[0].r.Patches(), s.places[1].r.Patches())
		if e != api.OK {
			t.Fatalf("Join is %d", e)
		}
		once, _ := repo.Init(roomyDisk(), "o")
		if e := once.Apply(l); e != api.OK {
			t.Fatalf("Apply is %d", e)
		}
		many, _ := repo.Init(roomyDisk(), "m")
		for waits := l; len(waits) > 0; {
			i := s.r.Intn(len(waits))
			switch e := many.Apply(waits[i : i+1]); e {
			case api.OK:
				waits = slices.Delete(slices.Clone(waits), i, i+1)
			case api.ErrLoop:
			default:
				t.Fatalf("Apply is %d", e)
			}
		}
		if !slices.EqualFunc(once.Patches(), many.Patches(), samePatch) || !sameState(once.State(), many.State()) {
			t.Fatalf("%s makes %s at once, %s one by one", namesOf(l), show(once.State()), show(many.State()))
		}
	}
}
