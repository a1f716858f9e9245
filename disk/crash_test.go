package disk_test

import (
	"maps"
	"math/rand"
	"slices"
	"strconv"
	"testing"

	"counterpane/api"
	"counterpane/disk"
)

// TestCrashKeepsTheSecondAlone is the chapter's example.
func TestCrashKeepsTheSecondAlone(t *testing.T) {
	d := disk.New(10)
	d.Write("a", []byte("1"))
	d.Sync()
	d.Write("a", []byte("22"))
	d.Rename("a", "b")
	d.Crash([]bool{false, true})
	wantView(t, "b, as a was", d, view{files: `b="1"`, used: 1, acts: 4})
}

func TestCrashReadsKeepByPlaces(t *testing.T) {
	for _, x := range []struct {
		keep []bool
		want string
	}{
		{nil, `s=""`},
		{[]bool{}, `s=""`},
		{[]bool{false, false, false}, `s=""`},
		{[]bool{true}, `a="" s=""`},
		{[]bool{false, true}, `b="" s=""`},
		{[]bool{false, false, true}, `c="" s=""`},
		{[]bool{true, false, true}, `a="" c="" s=""`},
		{[]bool{true, true, true, true, false, true}, `a="" b="" c="" s=""`},
	} {
		d := disk.Of(10, []api.File{{Name: "s"}})
		for _, name := range []string{"a", "b", "c"} {
			d.Write(name, nil)
		}
		d.Crash(x.keep)
		wantView(t, "crash", d, view{files: x.want, acts: 3})
	}
}

func TestCrashDoesWhatCanBeDone(t *testing.T) {
	make1 := op{kind: opWrite, name: "a", data: "1"}
	for _, x := range []struct {
		what string
		row  []op
		keep []bool
		want string
	}{
		{"a rename of what was not kept is nothing, not even over another one", []op{make1, {kind: opRename, name: "a", to: "b"}}, []bool{false, true}, `b="2"`},
		{"a rename goes over another one", []op{make1, {kind: opRename, name: "a", to: "b"}}, []bool{true, true}, `b="1"`},
		{"a rename to its own name is nothing", []op{make1, {kind: opRename, name: "a", to: "a"}}, []bool{true, true}, `a="1" b="2"`},
		{"a removal of what was not kept is nothing", []op{make1, {kind: opRemove, name: "a"}}, []bool{false, true}, `b="2"`},
		{"a removal takes what is there then", []op{{kind: opWrite, name: "b", data: "3"}, {kind: opRemove, name: "b"}}, []bool{false, true}, ``},
		{"a rename takes what is there then", []op{{kind: opWrite, name: "b", data: "3"}, {kind: opRename, name: "b", to: "c"}}, []bool{false, true}, `c="2"`},
		{"a write needs nothing", []op{{kind: opRename, name: "b", to: "c"}, {kind: opWrite, name: "b", data: "3"}}, []bool{false, true}, `b="3"`},
	} {
		d := disk.Of(10, []api.File{{Name: "b", Data: []byte("2")}})
		for _, o := range x.row {
			want(t, x.what, o.call(d), api.OK)
		}
		d.Crash(x.keep)
		if got := shown(d.Files()); got != x.want {
			t.Errorf("%s: got %s, want %s", x.what, got, x.want)
		}
	}
}

// A crash is no act, and what it leaves is synced.
func TestCrashLeavesAllSynced(t *testing.T) {
	d := disk.New(10)
	d.Write("a", []byte("1"))
	d.Write("b", []byte("2"))
	d.Crash([]bool{true})
	left := view{files: `a="1"`, used: 1, acts: 2}
	wantView(t, "once", d, left)
	d.Crash(nil)
	wantView(t, "twice", d, left)
	d.Crash([]bool{true, true})
	wantView(t, "thrice", d, left)
}

// What a crash keeps is not held against the bounds once more: the chapter has a kept write be done, whatever else is.
func TestCrashMayGoBeyondTheBounds(t *testing.T) {
	d := filled(t, 1, api.MaxFiles)
	d.Remove("f0")
	want(t, "in its place", d.Write("x", []byte("1")), api.OK)
	d.Remove("x")
	want(t, "in its place", d.Write("y", []byte("2")), api.OK)
	d.Crash([]bool{false, true, false, true})
	if len(d.Files()) != api.MaxFiles+2 || d.Used() != 2 {
		t.Error(len(d.Files()), d.Used())
	}
	want(t, "one more file", d.Write("f512", nil), api.ErrTooMany)
	want(t, "one that is there", d.Write("f1", nil), api.ErrFull)
	want(t, "remove", d.Remove("x"), api.OK)
	want(t, "one that is there", d.Write("f1", nil), api.OK)
}

const (
	opWrite = iota
	opRename
	opRemove
	opSync
	opFuse
)

// op is a call of a disk, as plain data.
type op struct {
	kind int
	name string
	to   string
	data string
	n    int
}

func (o op) call(d *disk.Disk) api.Errno {
	switch o.kind {
	case opWrite:
		return d.Write(o.name, []byte(o.data))
	case opRename:
		return d.Rename(o.name, o.to)
	case opRemove:
		return d.Remove(o.name)
	case opSync:
		return d.Sync()
	}
	d.Fuse(o.n)
	return api.OK
}

// model is the chapter's words, done in the slowest way: files are what the whole row of changes makes of what was synced.
type model struct {
	room   int
	synced map[string]string
	loose  []op
	acts   int
	fuse   *int
	down   bool
}

func newModel(room int) *model { return &model{room: room, synced: map[string]string{}} }

func (m *model) files(keep func(i int) bool) map[string]string {
	l := maps.Clone(m.synced)
	for i, o := range m.loose {
		b, there := l[o.name]
		switch {
		case !keep(i):
		case o.kind == opWrite:
			l[o.name] = o.data
		case !there:
		case o.kind == opRemove:
			delete(l, o.name)
		case o.name != o.to:
			l[o.to] = b
			delete(l, o.name)
		}
	}
	return l
}

func (m *model) now() map[string]string { return m.files(func(int) bool { return true }) }

func (m *model) call(o op) api.Errno {
	if o.kind == opFuse {
		m.fuse = nil
		if o.n >= 0 {
			m.fuse = &o.n
		}
		return api.OK
	}
	m.down = m.down || m.fuse != nil && *m.fuse == 0
	if m.down {
		return api.ErrDown
	}
	if e := m.refusal(o); e != api.OK {
		return e
	}
	m.acts++
	if m.fuse != nil {
		left := *m.fuse - 1
		m.fuse = &left
	}
	if o.kind == opSync {
		m.synced, m.loose = m.now(), nil
	} else {
		m.loose = append(m.loose, o)
	}
	return api.OK
}

// refusal knows of no bounds but those that the tests' small disks can meet.
func (m *model) refusal(o op) api.Errno {
	l := m.now()
	_, there := l[o.name]
	switch {
	case o.kind == opWrite && o.name == "A" || o.kind == opRename && o.to == "A":
		return api.ErrArg
	case (o.kind == opRename || o.kind == opRemove) && !there:
		return api.ErrNone
	case o.kind == opWrite:
		l[o.name] = o.data
		if bytesOf(l) > m.room {
			return api.ErrFull
		}
	}
	return api.OK
}

func (m *model) crash(keep []bool) {
	m.synced = m.files(func(i int) bool { return i < len(keep) && keep[i] })
	m.loose, m.fuse, m.down = nil, nil, false
}

func (m *model) view() view {
	l := m.now()
	return view{shown(listed(l)), bytesOf(l), m.acts, len(m.loose), m.down}
}

func listed(l map[string]string) []api.File {
	var out []api.File
	for _, name := range slices.Sorted(maps.Keys(l)) {
		out = append(out, api.File{Name: name, Data: []byte(l[name])})
	}
	return out
}

func bytesOf(l map[string]string) int {
	n := 0
	for _, b := range l {
		n += len(b)
	}
	return n
}

// untouched are the synced files whose names no loose change speaks of.
func (m *model) untouched() map[string]string {
	l := maps.Clone(m.synced)
	for _, o := range m.loose {
		delete(l, o.name)
		if o.kind == opRename {
			delete(l, o.to)
		}
	}
	return l
}

// run does a row of calls on a disk and on the model, and holds the one against the other behind each.
func run(t *testing.T, room int, row []op) (*disk.Disk, *model) {
	t.Helper()
	d, m := disk.New(room), newModel(room)
	for i, o := range row {
		if got, wanted := o.call(d), m.call(o); got != wanted {
			t.Fatalf("%+v: at %d got %d, want %d", row, i, got, wanted)
		}
		if got, wanted := look(d), m.view(); got != wanted {
			t.Fatalf("%+v: behind %d got %+v, want %+v", row, i, got, wanted)
		}
	}
	return d, m
}

// checkCrash holds one crash behind a row of calls against the model, and against P1.2 and P1.3.
func checkCrash(t *testing.T, room int, row []op, keep []bool) {
	t.Helper()
	d, m := run(t, room, row)
	synced, before, stays, many := shown(listed(m.synced)), shown(d.Files()), m.untouched(), len(m.loose)
	d.Crash(keep)
	m.crash(keep)
	after := look(d)
	if after != m.view() {
		t.Fatalf("%+v, kept %v: got %+v, want %+v", row, keep, after, m.view())
	}
	for name, data := range stays {
		if b, e := d.Read(name); e != api.OK || string(b) != data {
			t.Fatalf("P1.2: %+v, kept %v: %s is %q, %d", row, keep, name, b, e)
		}
	}
	if allKept(keep, many) && after.files != before {
		t.Fatalf("P1.3: %+v, all kept: got %s, want %s", row, after.files, before)
	}
	if !slices.Contains(keep, true) && after.files != synced {
		t.Fatalf("P1.3: %+v, none kept: got %s, want %s", row, after.files, synced)
	}
	d.Crash(nil)
	if got := look(d); got != after {
		t.Fatalf("%+v, kept %v: not synced: got %+v, want %+v", row, keep, got, after)
	}
}

func allKept(keep []bool, many int) bool {
	return len(keep) >= many && !slices.Contains(keep[:many], false)
}

// kept is the places of many changes that are set in bits.
func kept(bits, many int) []bool {
	l := make([]bool, many)
	for i := range l {
		l[i] = bits>>i&1 == 1
	}
	return l
}

// smallOps is few calls of which each has to do with each other one.
func smallOps() []op {
	return []op{
		{kind: opWrite, name: "a", data: "1"},
		{kind: opWrite, name: "a", data: "22"},
		{kind: opWrite, name: "b", data: "33"},
		{kind: opWrite, name: "A", data: "4"},
		{kind: opRename, name: "a", to: "b"},
		{kind: opRename, name: "b", to: "a"},
		{kind: opRename, name: "a", to: "a"},
		{kind: opRename, name: "b", to: "A"},
		{kind: opRemove, name: "a"},
		{kind: opRemove, name: "b"},
		{kind: opSync},
		{kind: opFuse, n: 1},
	}
}

// TestEveryShortScript does every row of a few small calls, on an empty disk and on one with a synced file, and every crash behind each.
func TestEveryShortScript(t *testing.T) {
	var grow func(row []op, more int)
	grow = func(row []op, more int) {
		_, m := run(t, 3, row)
		for bits := range 1 << len(m.loose) {
			checkCrash(t, 3, row, kept(bits, len(m.loose)))
		}
		if more == 0 {
			return
		}
		for _, o := range smallOps() {
			grow(append(slices.Clone(row), o), more-1)
		}
	}
	start := []op{{kind: opWrite, name: "a", data: "0"}, {kind: opSync}}
	grow(nil, 4)
	grow(start, 3)
}

// TestLongScripts does rows of many calls, with more names, and a crash behind each; the source is the same each time.
func TestLongScripts(t *testing.T) {
	source := rand.New(rand.NewSource(1))
	for range 2000 {
		var row []op
		for range source.Intn(24) {
			row = append(row, anyOp(source))
		}
		keep := kept(source.Int(), source.Intn(30))
		if source.Intn(4) == 0 {
			keep = kept(-1, 30)
		}
		checkCrash(t, 1+source.Intn(12), row, keep)
	}
}

func anyOp(source *rand.Rand) op {
	name := func() string { return string("aabbccddeA"[source.Intn(10)]) }
	o := op{kind: source.Intn(opSync), name: name(), to: name()}
	switch source.Intn(12) {
	case 0:
		o.kind = opSync
	case 1:
		o.kind, o.n = opFuse, source.Intn(20)-4
	}
	o.data = strconv.Itoa(source.Intn(1000))[source.Intn(2):]
	return o
}

// Two rows with a crash between: what the first one left is what the second one stands on.
func TestCrashesInARow(t *testing.T) {
	source := rand.New(rand.NewSource(2))
	for range 500 {
		d, m := disk.New(9), newModel(9)
		for range 6 {
			for range source.Intn(6) {
				o := anyOp(source)
				want(t, "a call", o.call(d), m.call(o))
			}
			keep := kept(source.Int(), source.Intn(8))
			d.Crash(keep)
			m.crash(keep)
			wantView(t, "behind a crash", d, m.view())
		}
	}
}
