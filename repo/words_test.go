package repo_test

import (
	"bytes"
	"fmt"
	"math/big"
	"regexp"
	"slices"
	"strings"
	"testing"

	"counterpane/api"
	"counterpane/closure"
	"counterpane/disk"
	"counterpane/inventory"
	"counterpane/named"
	"counterpane/record"
	"counterpane/replay"
	"counterpane/repo"
	"counterpane/seq"
	"counterpane/sha"
	"counterpane/store"
	"counterpane/tree"
)

// The chapter's words, told once more: a model stands on a disk of its own, and has no state but what its patches make.

type model struct {
	d       *disk.Disk
	id      string
	count   int
	patches []api.Patch
}

var (
	anId     = regexp.MustCompile(`\A[a-z0-9-]{1,12}\z`)
	aNumber  = regexp.MustCompile(`\A(0|[1-9][0-9]{0,17}):`)
	ofAnyOne = regexp.MustCompile(`\A([a-z0-9-]+)\.([1-9][0-9]*)\z`)
)

func idByWords(s string) bool { return anId.MatchString(s) }

// numberByWords is the number whose own name that is; nil: it is none.
func numberByWords(id, name string) *big.Int {
	found := ofAnyOne.FindStringSubmatch(name)
	if found == nil || found[1] != id {
		return nil
	}
	n, _ := new(big.Int).SetString(found[2], 10)
	return n
}

// mayByWords tells whether patches may be there.
func mayByWords(id string, count int, l []api.Patch) bool {
	if _, e := closure.Order(l); e != api.OK {
		return false
	}
	for _, p := range l {
		if n := numberByWords(id, p.Name); n != nil && n.Cmp(big.NewInt(int64(count))) > 0 {
			return false
		}
	}
	return true
}

func inventoryByWords(id string, count int, names []string) []byte {
	text := fmt.Sprintf("%d:%s%d:%d:", len(id), id, count, len(names))
	for _, name := range names {
		text += fmt.Sprintf("%d:%s", len(name), name)
	}
	return []byte(text)
}

// strict reads an inventory's bytes one by one; what is not there is a panic.
type strict struct{ rest string }

func (s *strict) number() int {
	found := aNumber.FindStringSubmatch(s.rest)
	if found == nil {
		panic("no number")
	}
	s.rest = s.rest[len(found[0]):]
	n, _ := new(big.Int).SetString(found[1], 10)
	return int(n.Int64())
}

func (s *strict) text() string {
	n := s.number()
	text := s.rest[:n]
	s.rest = s.rest[n:]
	return text
}

// readByWords is what an inventory's bytes tell; false: they are none.
func readByWords(b []byte) (id string, count int, names []string, is bool) {
	defer func() {
		if recover() != nil {
			id, count, names, is = "", 0, nil, false
		}
	}()
	s := &strict{string(b)}
	id, count = s.text(), s.number()
	for range s.number() {
		name := s.text()
		if !sha.Named(name) {
			panic("no name")
		}
		names = append(names, name)
	}
	return id, count, names, s.rest == "" && idByWords(id) && count <= 1<<30
}

// bytesOf are those of right patches, by their rising names.
func bytesOf(l []api.Patch) [][]byte {
	l = slices.Clone(l)
	slices.SortFunc(l, func(p, q api.Patch) int { return strings.Compare(p.Name, q.Name) })
	var all [][]byte
	for _, p := range l {
		b, e := named.Put(p)
		if e != api.OK {
			panic("a patch that is not right")
		}
		all = append(all, b)
	}
	return all
}

// keptByWords are the bytes that are kept: of each patch, and of the inventory.
func keptByWords(id string, count int, l []api.Patch) [][]byte {
	all := bytesOf(l)
	return append(all, inventoryByWords(id, count, sums(all)))
}

func sums(l [][]byte) []string {
	var names []string
	for _, b := range l {
		names = append(names, sha.Name(b))
	}
	return names
}

// keep is KEEPING, up to what is swept where that has an error.
func (m *model) keep(count int, l []api.Patch) api.Errno {
	all := keptByWords(m.id, count, l)
	for _, b := range all {
		if _, e := store.Put(m.d, b); e != api.OK {
			return e
		}
	}
	if e := store.SetRoot(m.d, sha.Name(all[len(all)-1])); e != api.OK {
		return e
	}
	m.count, m.patches = count, l
	store.Sweep(m.d, sums(all))
	return api.OK
}

// command is KEEPING, behind which all is as it was, or new.
func (m *model) command(count int, l []api.Patch) api.Errno {
	e := m.keep(count, l)
	if e != api.OK && e != api.ErrDown {
		store.Sweep(m.d, sums(keptByWords(m.id, m.count, m.patches)))
	}
	return e
}

func initByWords(d *disk.Disk, id string) (*model, api.Errno) {
	if !idByWords(id) {
		return nil, api.ErrArg
	}
	_, e := store.Root(d)
	switch {
	case e == api.OK:
		return nil, api.ErrThere
	case e != api.ErrNone:
		return nil, e
	}
	m := &model{d: d, id: id}
	if e := m.keep(0, nil); e != api.OK {
		return nil, e
	}
	return m, api.OK
}

func openByWords(d *disk.Disk) (*model, api.Errno) {
	root, e := store.Root(d)
	if e != api.OK {
		return nil, e
	}
	b, e := store.Get(d, root)
	if e != api.OK {
		return nil, api.ErrCorrupt
	}
	id, count, names, is := readByWords(b)
	if !is {
		return nil, api.ErrCorrupt
	}
	m := &model{d: d, id: id, count: count}
	for _, name := range names {
		b, e := store.Get(d, name)
		if e != api.OK {
			return nil, api.ErrCorrupt
		}
		p, e := named.Get(b)
		if e != api.OK {
			return nil, api.ErrCorrupt
		}
		if n := len(m.patches); n > 0 && p.Name < m.patches[n-1].Name {
			return nil, api.ErrCorrupt
		}
		m.patches = append(m.patches, p)
	}
	if !mayByWords(id, count, m.patches) {
		return nil, api.ErrCorrupt
	}
	if e := store.Sweep(d, append(names, root)); e != api.OK {
		return nil, e
	}
	return m, api.OK
}

// stateOf is what patches make, that have an order.
func stateOf(l []api.Patch) api.State {
	s, e := replay.Replay(l)
	if e != api.OK {
		panic("patches without an order")
	}
	return s
}

// those are the patches of l with one of those names.
func those(l []api.Patch, names []string) []api.Patch {
	var some []api.Patch
	for _, p := range l {
		if slices.Contains(names, p.Name) {
			some = append(some, p)
		}
	}
	return some
}

// newOne is a patch that is to be made of what l makes; a tag, if bare.
func (m *model) newOne(l []api.Patch, now []api.Entry, bare bool) (api.Patch, api.Errno) {
	if !bare && !tree.Right(now) {
		return api.Patch{}, api.ErrArg
	}
	if m.count == 1<<30 || len(l) == 256 {
		return api.Patch{}, api.ErrTooMany
	}
	s := stateOf(l)
	heads, e := closure.Heads(those(l, s.Done))
	if e != api.OK {
		return api.Patch{}, -1
	}
	p := api.Patch{Name: fmt.Sprintf("%s.%d", m.id, m.count+1), Deps: heads}
	if bare {
		return p, api.OK
	}
	changes, e := record.Record(s.Tree, now)
	if e != api.OK {
		return api.Patch{}, -1
	}
	p.Body = seq.Coalesce(changes)
	if len(p.Body) == 0 {
		return api.Patch{}, api.ErrNone
	}
	if len(p.Body) > 256 || !named.Right(p) {
		return api.Patch{}, api.ErrTooMany
	}
	if !sameTree(stateOf(append(slices.Clone(l), p)).Tree, now) {
		return api.Patch{}, api.ErrSame
	}
	return p, api.OK
}

// addOne is a command that has l and a new patch be there.
func (m *model) addOne(l []api.Patch, now []api.Entry, bare bool) (string, api.Errno) {
	p, e := m.newOne(l, now, bare)
	if e != api.OK {
		return "", e
	}
	if e := m.command(m.count+1, append(slices.Clone(l), p)); e != api.OK {
		return "", e
	}
	return p.Name, api.OK
}

func (m *model) record(now []api.Entry) (string, api.Errno) { return m.addOne(m.patches, now, false) }

func (m *model) tag() (string, api.Errno) { return m.addOne(m.patches, nil, true) }

func (m *model) amend(name string, now []api.Entry) (string, api.Errno) {
	there := false
	var others []api.Patch
	for _, p := range m.patches {
		if p.Name == name {
			there = true
		} else {
			others = append(others, p)
		}
	}
	if !there {
		return "", api.ErrNone
	}
	for _, p := range others {
		if slices.Contains(p.Deps, name) {
			return "", api.ErrSame
		}
	}
	return m.addOne(others, now, false)
}

func (m *model) unrecord(names []string) api.Errno {
	left, e := inventory.Without(m.patches, names)
	if e != api.OK {
		return e
	}
	return m.command(m.count, left)
}

func (m *model) apply(l []api.Patch) api.Errno {
	all, e := inventory.Join(m.patches, l)
	if e != api.OK {
		return e
	}
	if !mayByWords(m.id, m.count, all) {
		return api.ErrClash
	}
	return m.command(m.count, all)
}

// show tells something, at least its beginning.
func show(what any) string { return fmt.Sprintf("%.400s", fmt.Sprintf("%+v", what)) }

func sameTree(a, b []api.Entry) bool { return slices.EqualFunc(a, b, sameEntry) }

func sameEntry(x, y api.Entry) bool {
	return x.Path == y.Path && x.Kind == y.Kind && slices.Equal(x.Lines, y.Lines) && x.Data == y.Data
}

func sameChange(x, y api.Prim) bool {
	return x.Kind == y.Kind && x.Path == y.Path && x.To == y.To && x.From == y.From && x.At == y.At && slices.Equal(x.Old, y.Old) && slices.Equal(x.New, y.New)
}

func sameBody(a, b []api.Prim) bool { return slices.EqualFunc(a, b, sameChange) }

func samePatch(p, q api.Patch) bool {
	return p.Name == q.Name && slices.Equal(p.Deps, q.Deps) && sameBody(p.Body, q.Body)
}

func sameState(s, u api.State) bool {
	return sameTree(s.Tree, u.Tree) && slices.Equal(s.Done, u.Done) && slices.Equal(s.Left, u.Left) && slices.EqualFunc(s.Forms, u.Forms, sameBody)
}

func sameFile(f, g api.File) bool { return f.Name == g.Name && bytes.Equal(f.Data, g.Data) }

// pair is a repository and its model, each on a disk, that are alike.
type pair struct {
	r    *repo.Repo
	m    *model
	d, e *disk.Disk
}

// alikeDisks asks whether the repository's disk is what the model's is.
func (x *pair) alikeDisks(t *testing.T, what string) {
	t.Helper()
	if got, want := x.d.Files(), x.e.Files(); !slices.EqualFunc(got, want, sameFile) {
		t.Fatalf("%s: files are %s; want %s", what, show(got), show(want))
	}
	if x.d.Acts() != x.e.Acts() || x.d.Loose() != x.e.Loose() || x.d.Down() != x.e.Down() {
		t.Fatalf("%s: the disk has %d acts, %d loose, down %t; want %d, %d, %t", what, x.d.Acts(), x.d.Loose(), x.d.Down(), x.e.Acts(), x.e.Loose(), x.e.Down())
	}
}

// alike asks whether the repository is what the model is.
func (x *pair) alike(t *testing.T, what string) {
	t.Helper()
	x.alikeDisks(t, what)
	if x.r == nil || x.m == nil {
		if x.r != nil || x.m != nil {
			t.Fatalf("%s: the repository is nil: %t; the model: %t", what, x.r == nil, x.m == nil)
		}
		return
	}
	if x.r.Id() != x.m.id || x.r.Count() != x.m.count {
		t.Fatalf("%s: it is %s, of Count %d; want %s, %d", what, x.r.Id(), x.r.Count(), x.m.id, x.m.count)
	}
	want := slices.SortedFunc(slices.Values(x.m.patches), func(p, q api.Patch) int { return strings.Compare(p.Name, q.Name) })
	if got := x.r.Patches(); !slices.EqualFunc(got, want, samePatch) {
		t.Fatalf("%s: patches are %s; want %s", what, show(got), show(want))
	}
	if got, want := x.r.State(), stateOf(want); !sameState(got, want) {
		t.Fatalf("%s: the state is %s; want %s", what, show(got), show(want))
	}
}

// answered asks whether both answered the same, and are alike then.
func (x *pair) answered(t *testing.T, what string, name string, e api.Errno, want string, wanted api.Errno) {
	t.Helper()
	if name != want || e != wanted {
		t.Fatalf("%s is %q, %d; want %q, %d", what, name, e, want, wanted)
	}
	x.alike(t, what)
}

// on is a pair on such disks, that has no repository yet.
func on(lay func() *disk.Disk) *pair { return &pair{d: lay(), e: lay()} }

// roomyDisk is one without files.
func roomyDisk() *disk.Disk { return disk.New(1 << 24) }

func (x *pair) init(t *testing.T, id string) api.Errno {
	t.Helper()
	var e, f api.Errno
	x.r, e = repo.Init(x.d, id)
	x.m, f = initByWords(x.e, id)
	x.answered(t, fmt.Sprintf("Init %q", id), "", e, "", f)
	return e
}

func (x *pair) open(t *testing.T) api.Errno {
	t.Helper()
	var e, f api.Errno
	x.r, e = repo.Open(x.d)
	x.m, f = openByWords(x.e)
	x.answered(t, "Open", "", e, "", f)
	return e
}

// begun is a pair of a new repository.
func begun(t *testing.T, id string) *pair {
	t.Helper()
	x := on(roomyDisk)
	if e := x.init(t, id); e != api.OK {
		t.Fatalf("Init %q is %d", id, e)
	}
	return x
}

func (x *pair) record(t *testing.T, now []api.Entry) (string, api.Errno) {
	t.Helper()
	name, e := x.r.Record(now)
	want, wanted := x.m.record(now)
	x.answered(t, "Record of "+show(now), name, e, want, wanted)
	return name, e
}

func (x *pair) tag(t *testing.T) (string, api.Errno) {
	t.Helper()
	name, e := x.r.Tag()
	want, wanted := x.m.tag()
	x.answered(t, "Tag", name, e, want, wanted)
	return name, e
}

func (x *pair) amend(t *testing.T, name string, now []api.Entry) (string, api.Errno) {
	t.Helper()
	got, e := x.r.Amend(name, now)
	want, wanted := x.m.amend(name, now)
	x.answered(t, "Amend of "+name+" to "+show(now), got, e, want, wanted)
	return got, e
}

func (x *pair) unrecord(t *testing.T, names ...string) api.Errno {
	t.Helper()
	e := x.r.Unrecord(names)
	x.answered(t, "Unrecord of "+show(names), "", e, "", x.m.unrecord(names))
	return e
}

func (x *pair) apply(t *testing.T, l ...api.Patch) api.Errno {
	t.Helper()
	e := x.r.Apply(l)
	x.answered(t, "Apply of "+show(l), "", e, "", x.m.apply(l))
	return e
}

// fuse has the power of both disks go ahead of the act behind n more.
func (x *pair) fuse(n int) {
	x.d.Fuse(n)
	x.e.Fuse(n)
}

func (x *pair) crash(keep []bool) {
	x.d.Crash(keep)
	x.e.Crash(keep)
}
