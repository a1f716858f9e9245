package repo_test

import (
	"fmt"
	"slices"
	"strings"
	"testing"

	"counterpane/api"
	"counterpane/disk"
	"counterpane/repo"
	"counterpane/sha"
)

func words(l ...string) []string { return l }

func dir(at string) api.Entry { return api.Entry{Path: at, Kind: api.KindDir} }

func data(at, s string) api.Entry { return api.Entry{Path: at, Kind: api.KindData, Data: s} }

// text is one of those lines, with blanks between.
func text(at, l string) api.Entry {
	return api.Entry{Path: at, Kind: api.KindText, Lines: strings.Fields(l)}
}

func things(l ...api.Entry) []api.Entry { return l }

// lined is a tree of one text.
func lined(l string) []api.Entry { return things(text("t", l)) }

// dirs are so many directories.
func dirs(n int) []api.Entry {
	var l []api.Entry
	for i := range n {
		l = append(l, dir(fmt.Sprintf("d%04d", i)))
	}
	return l
}

// tag is one of a name, and names that it stands on behind it.
func tag(names string) api.Patch {
	l := strings.Fields(names)
	return api.Patch{Name: l[0], Deps: l[1:]}
}

// patch is one likewise, that changes something.
func patch(names string, body ...api.Prim) api.Patch {
	p := tag(names)
	p.Body = body
	return p
}

func patches(l ...api.Patch) []api.Patch { return l }

// change is one of a path alone.
func change(kind int, at string) api.Prim { return api.Prim{Kind: kind, Path: at} }

// hunk is a Lines of the text t; lines have blanks between.
func hunk(at int, old, now string) api.Prim {
	return api.Prim{Kind: api.Lines, Path: "t", At: at, Old: strings.Fields(old), New: strings.Fields(now)}
}

// told is what a command answers: a name, or nothing, or an error.
func told(name string, e api.Errno) string {
	if e == api.OK {
		return name
	}
	return strings.TrimSpace(fmt.Sprintf("%s !%d", name, e))
}

func written(t *testing.T, what, got, want string) {
	t.Helper()
	if got != want {
		t.Errorf("%s is %q; want %q", what, got, want)
	}
}

// namesOf are those of patches; behind each what it stands on.
func namesOf(l []api.Patch) string {
	var names []string
	for _, p := range l {
		names = append(names, strings.Join(append(words(p.Name), p.Deps...), "<"))
	}
	return strings.Join(names, " ")
}

// has asks what is there.
func (x *pair) has(t *testing.T, count int, names, done, left string, now []api.Entry) {
	t.Helper()
	s := x.r.State()
	if x.r.Count() != count || namesOf(x.r.Patches()) != names || strings.Join(s.Done, " ") != done || strings.Join(s.Left, " ") != left || !sameTree(s.Tree, now) {
		t.Errorf("it is %d, %q, %s; want %d, %q, %q, %q, %s", x.r.Count(), namesOf(x.r.Patches()), show(s), count, names, done, left, show(now))
	}
}

// TestCommands does each command once, or more.
func TestCommands(t *testing.T) {
	x := begun(t, "x")
	x.has(t, 0, "", "", "", nil)
	written(t, "Record", told(x.record(t, lined("1 2 3"))), "x.1")
	x.has(t, 1, "x.1", "x.1", "", lined("1 2 3"))
	written(t, "Record", told(x.record(t, lined("1 2 4 5"))), "x.2")
	x.has(t, 2, "x.1 x.2<x.1", "x.1 x.2", "", lined("1 2 4 5"))
	if body := x.r.Patches()[1].Body; !sameBody(body, []api.Prim{hunk(2, "3", "4 5")}) {
		t.Errorf("x.2 is %s", show(body))
	}
	written(t, "Tag", told(x.tag(t)), "x.3")
	x.has(t, 3, "x.1 x.2<x.1 x.3<x.2", "x.1 x.2 x.3", "", lined("1 2 4 5"))
	written(t, "Tag", told(x.tag(t)), "x.4")
	x.has(t, 4, "x.1 x.2<x.1 x.3<x.2 x.4<x.3", "x.1 x.2 x.3 x.4", "", lined("1 2 4 5"))
	written(t, "Unrecord", told("", x.unrecord(t, "x.3")), "")
	x.has(t, 4, "x.1 x.2<x.1", "x.1 x.2", "", lined("1 2 4 5"))
	written(t, "Amend", told(x.amend(t, "x.2", lined("0 1 2 3"))), "x.5")
	x.has(t, 5, "x.1 x.5<x.1", "x.1 x.5", "", lined("0 1 2 3"))
	if body := x.r.Patches()[1].Body; !sameBody(body, []api.Prim{hunk(0, "", "0")}) {
		t.Errorf("x.5 is %s", show(body))
	}
	written(t, "Apply", told("", x.apply(t, tag("x.4 x.1 y"), patch("y", hunk(0, "", "no t")), patch("x.2 x.1", hunk(2, "3", "4")))), "")
	x.has(t, 5, "x.1 x.2<x.1 x.4<x.1<y x.5<x.1 y", "x.1 x.2 x.5", "x.4 y", lined("0 1 2 4"))
	written(t, "Record", told(x.record(t, nil)), "x.6")
	x.has(t, 6, "x.1 x.2<x.1 x.4<x.1<y x.5<x.1 x.6<x.2<x.5 y", "x.1 x.2 x.5 x.6", "x.4 y", nil)
	written(t, "Unrecord", told("", x.unrecord(t, "x.1", "y", "x.2")), "")
	x.has(t, 6, "", "", "", nil)
	written(t, "Open", told("", x.open(t)), "")
	x.has(t, 6, "", "", "", nil)
	written(t, "Record", told(x.record(t, things(dir("a"), data("a/b", "q")))), "x.7")
	x.has(t, 7, "x.7", "x.7", "", things(dir("a"), data("a/b", "q")))
}

// TestAmendOfTheFirst: what it is made of is what is there without it, the tree too.
func TestAmendOfTheFirst(t *testing.T) {
	x := begun(t, "x-1")
	x.record(t, lined("1 2"))
	written(t, "Amend", told(x.amend(t, "x-1.1", lined("1 2"))), "x-1.2")
	x.has(t, 2, "x-1.2", "x-1.2", "", lined("1 2"))
	written(t, "Amend", told(x.amend(t, "x-1.2", nil)), "!12")
	x.apply(t, patch("y", change(api.AddText, "t")), patch("z", change(api.AddText, "t")))
	// Its name is the least of three that make t; without it y is done.
	x.has(t, 2, "x-1.2 y z", "x-1.2", "y z", lined("1 2"))
	written(t, "Amend", told(x.amend(t, "x-1.2", lined(""))), "!12")
	written(t, "Amend", told(x.amend(t, "x-1.2", lined("2"))), "x-1.3")
	x.has(t, 3, "x-1.3<y y z", "y x-1.3", "z", lined("2"))
	// One that is left can be amended, too, of what is done without it.
	written(t, "Amend", told(x.amend(t, "z", lined("2 3"))), "x-1.4")
	x.has(t, 4, "x-1.3<y x-1.4<x-1.3 y", "y x-1.3 x-1.4", "", lined("2 3"))
	if body := x.r.Patches()[1].Body; !sameBody(body, []api.Prim{hunk(1, "", "3")}) {
		t.Errorf("x-1.4 is %s", show(body))
	}
}

// TestJoinedChanges: what is recorded is coalesced.
func TestJoinedChanges(t *testing.T) {
	x := begun(t, "x")
	x.record(t, things(data("b", "1"), text("t", "1 2 3")))
	x.record(t, things(dir("b"), text("t", "0 2 4")))
	want := []api.Prim{
		{Kind: api.Bytes, Path: "b", From: "1"}, change(api.RmData, "b"), change(api.AddDir, "b"),
		hunk(0, "1", "0"), hunk(2, "3", "4"),
	}
	if body := x.r.Patches()[1].Body; !sameBody(body, want) {
		t.Errorf("x.2 is %s; want %s", show(body), show(want))
	}
	// The empty text that goes, and the one that comes, are of one kind, and so is kept.
	x.record(t, things(dir("b"), text("t", "")))
	if body := x.r.Patches()[2].Body; !sameBody(body, []api.Prim{hunk(0, "0 2 4", "")}) {
		t.Errorf("x.3 is %s", show(body))
	}
}

// TestIds: what an id is, byte by byte, and how long it may be.
func TestIds(t *testing.T) {
	ask := func(id string) {
		t.Helper()
		x := on(roomyDisk)
		if e := x.init(t, id); e != api.OK {
			if e != api.ErrArg || x.d.Acts() > 0 {
				t.Errorf("Init %q is %d, with %d acts", id, e, x.d.Acts())
			}
			return
		}
		written(t, "Id", x.r.Id(), id)
		written(t, "Record", told(x.record(t, lined("1"))), id+".1")
		written(t, "Open", told("", x.open(t)), "")
		written(t, "Id", x.r.Id(), id)
	}
	for c := range 256 {
		for _, id := range words(string([]byte{byte(c)}), string([]byte{byte(c), 'a'}), string([]byte{'0', byte(c), 'z'}), string([]byte{'-', byte(c)})) {
			ask(id)
		}
	}
	for n := range 30 {
		ask(strings.Repeat("a", n))
		ask(strings.Repeat("-9", n))
	}
	ask("é")
	ask("x.1")
	for id, want := range map[string]api.Errno{"": api.ErrArg, "a": api.OK, "abc-09xyz-12": api.OK, "abc-09xyz-123": api.ErrArg, "A": api.ErrArg, "a.b": api.ErrArg, "-": api.OK, "0": api.OK} {
		if _, e := repo.Init(roomyDisk(), id); e != want {
			t.Errorf("Init %q is %d; want %d", id, e, want)
		}
	}
}

// TestInit: which disks may have one, and what they have then.
func TestInit(t *testing.T) {
	root := sha.Name([]byte("1:x0:0:"))
	for _, c := range []struct {
		what string
		room int
		fuse int
		l    []api.File
		want api.Errno
		left string
	}{
		{"an empty disk", 200, -1, nil, api.OK, "o.# root"},
		{"just room", 71 + 64, -1, nil, api.OK, "o.# root"},
		{"no room for the root", 70, -1, nil, api.ErrFull, "o.#"},
		{"no room", 6, -1, nil, api.ErrFull, ""},
		{"other files", 200, -1, []api.File{{Name: "a"}, {Name: "o.1"}, {Name: "root.new", Data: []byte("1")}}, api.OK, "o.# root"},
		{"other files, and no room", 70, -1, []api.File{{Name: "a"}, {Name: "root.new", Data: []byte("1")}}, api.ErrFull, "a o.# root.new"},
		{"a root", 200, -1, []api.File{{Name: "root", Data: []byte(root)}, {Name: "a"}}, api.ErrThere, "a root"},
		{"a root of nothing", 200, -1, []api.File{{Name: "root"}, {Name: "a"}}, api.ErrCorrupt, "a root"},
		{"other bytes of the inventory's name", 200, -1, []api.File{{Name: "o." + root[:32], Data: []byte("0")}, {Name: "a"}}, api.ErrClash, "a o.#"},
		{"the inventory's bytes", 71 + 64, -1, []api.File{{Name: "o." + root[:32], Data: []byte("1:x0:0:")}}, api.OK, "o.# root"},
		{"no power", 200, 0, []api.File{{Name: "a"}}, api.ErrDown, "a"},
		{"no power behind the sweep's first act", 200, 7, []api.File{{Name: "a"}, {Name: "b"}}, api.OK, "b o.# root"},
	} {
		x := on(func() *disk.Disk { return disk.Of(c.room, c.l) })
		x.fuse(c.fuse)
		e := x.init(t, "x")
		var names []string
		for _, f := range x.d.Files() {
			names = append(names, strings.ReplaceAll(f.Name, root[:32], "#"))
		}
		if e != c.want || strings.Join(names, " ") != c.left {
			t.Errorf("%s: %d, and the files are %q; want %d, %q", c.what, e, names, c.want, c.left)
		}
		if _, e := repo.Init(x.d, "X"); e != api.ErrArg {
			t.Errorf("%s: with a wrong id %d", c.what, e)
		}
	}
	full := func(n int) func() *disk.Disk {
		var l []api.File
		for i := range n {
			l = append(l, api.File{Name: fmt.Sprintf("f%03d", i)})
		}
		return func() *disk.Disk { return disk.Of(200, l) }
	}
	for n, want := range map[int]api.Errno{510: api.OK, 511: api.ErrTooMany, 512: api.ErrTooMany} {
		if e := on(full(n)).init(t, "x"); e != want {
			t.Errorf("beside %d files it is %d; want %d", n, e, want)
		}
	}
}

// TestFiles: what is kept, byte by byte.
func TestFiles(t *testing.T) {
	d := disk.New(1000)
	r, _ := repo.Init(d, "x")
	r.Record(lined("1"))
	r.Tag()
	first, second := "3:x.10:2:3:1:t0:0:0:0:0:7:1:t0:0:0:0:1:1:1", "3:x.21:3:x.10:"
	one, two := sha.Name([]byte(first)), sha.Name([]byte(second))
	kept := "1:x2:2:64:" + one + "64:" + two
	root := sha.Name([]byte(kept))
	want := map[string]string{"root": root, "o." + root[:32]: kept, "o." + one[:32]: first, "o." + two[:32]: second}
	for _, f := range d.Files() {
		if text, there := want[f.Name]; !there || string(f.Data) != text {
			t.Errorf("%s is %q", f.Name, f.Data)
		}
	}
	if len(d.Files()) != len(want) || d.Loose() != 0 {
		t.Errorf("there are %d files, %d loose", len(d.Files()), d.Loose())
	}
}

// TestActs: what a command does on the disk, act by act: the patches that are not there yet, the inventory, a Sync, the root, and what goes.
func TestActs(t *testing.T) {
	x := begun(t, "x")
	acts := func(what string, want int, do func()) {
		t.Helper()
		was := x.d.Acts()
		do()
		if n := x.d.Acts() - was; n != want {
			t.Errorf("%s takes %d acts; want %d", what, n, want)
		}
	}
	acts("Record", 2+5+2, func() { x.record(t, lined("1")) })
	acts("Record", 2+5+2, func() { x.record(t, lined("1 2")) })
	acts("Record of the same", 0, func() { x.record(t, lined("1 2")) })
	acts("Amend", 2+5+3, func() { x.amend(t, "x.2", lined("1 3")) })
	acts("Apply of nothing", 5, func() { x.apply(t) })
	acts("Apply of what is there", 5, func() { x.apply(t, x.r.Patches()...) })
	acts("Apply of two", 3+5+2, func() { x.apply(t, tag("a"), tag("b a")) })
	acts("Unrecord of nothing", 5, func() { x.unrecord(t) })
	acts("Unrecord of two", 1+5+4, func() { x.unrecord(t, "a") })
	acts("Tag", 2+5+2, func() { x.tag(t) })
	acts("Open", 0, func() { x.open(t) })
}

// TestKeptLikewise: what leaves all as it was is kept too, so that it brings back what the disk lacks, and shows its errors.
func TestKeptLikewise(t *testing.T) {
	for _, command := range []func(x *pair, t *testing.T) api.Errno{
		func(x *pair, t *testing.T) api.Errno { return x.unrecord(t) },
		func(x *pair, t *testing.T) api.Errno { return x.apply(t) },
		func(x *pair, t *testing.T) api.Errno { return x.apply(t, x.r.Patches()[:1]...) },
	} {
		x := begun(t, "x")
		x.record(t, lined("1"))
		x.tag(t)
		for _, d := range []*disk.Disk{x.d, x.e} {
			for _, f := range d.Files() {
				d.Remove(f.Name)
			}
			d.Write("a", nil)
		}
		if e := command(x, t); e != api.OK || len(x.d.Files()) != 4 {
			t.Errorf("it is %d, with %d files", e, len(x.d.Files()))
		}
		x.open(t)
		x.has(t, 2, "x.1 x.2<x.1", "x.1 x.2", "", lined("1"))
		x.fuse(4)
		if e := command(x, t); e != api.ErrDown {
			t.Errorf("without power it is %d", e)
		}
		x.crash(nil)
		x.has(t, 2, "x.1 x.2<x.1", "x.1 x.2", "", lined("1"))
	}
}

// TestOwnNames: which names may be there of somebody else's patches, while so many were made.
func TestOwnNames(t *testing.T) {
	for count := range 12 {
		x := begun(t, "x")
		for range count {
			x.tag(t)
		}
		x.unrecord(t, strings.Fields(strings.Join(x.r.State().Done, " "))...)
		for _, c := range []struct {
			name string
			from int // the Count from which on it may be there
		}{
			{"x", 0}, {"x.", 0}, {"x.0", 0}, {"x.00", 0}, {"x.01", 0}, {"x.012", 0}, {"x.0123456789012345678", 0}, {"x.1.", 0}, {"x.1.2", 0}, {"x.a", 0}, {"x.1a", 0}, {"x.-1", 0}, {"x..1", 0},
			{"xx.99", 0}, {"y.99", 0}, {"1.99", 0}, {"x-99", 0}, {".99", 0}, {"x99", 0}, {"99", 0},
			{"x.1", 1}, {"x.2", 2}, {"x.3", 3}, {"x.9", 9}, {"x.10", 10}, {"x.11", 11}, {"x.12", 12}, {"x.19", 19}, {"x.20", 20}, {"x.100", 100},
			{"x.4294967296", 1 << 30}, {"x.4294967297", 1 << 30}, {"x.18446744073709551616", 1 << 30}, {"x.18446744073709551617", 1 << 30},
			{"x.1111111111111111111111", 1 << 30}, {"x.1000000000000000000000", 1 << 30},
		} {
			want := api.ErrClash
			if count >= c.from {
				want = api.OK
			}
			if e := x.apply(t, tag("a"), tag(c.name)); e != want {
				t.Errorf("with %d made Apply of %s is %d; want %d", count, c.name, e, want)
			} else if e == api.OK {
				x.unrecord(t, c.name, "a")
			}
		}
	}
}

// atCount is a pair of a repository that made so many, with those patches.
func atCount(t *testing.T, count int, l ...api.Patch) *pair {
	t.Helper()
	x := on(func() *disk.Disk { return laid(t, "x", count, l) })
	if e := x.open(t); e != api.OK {
		t.Fatalf("Open is %d", e)
	}
	return x
}

// TestCounts: no more than 2^30 patches are made; numbers are written out.
func TestCounts(t *testing.T) {
	for _, count := range []int{9, 10, 99, 999, 12345678, 1<<30 - 2, 1<<30 - 1} {
		want := fmt.Sprintf("x.%d", count+1)
		written(t, "Record", told(atCount(t, count).record(t, lined("1"))), want)
		written(t, "Tag", told(atCount(t, count).tag(t)), want)
		written(t, "Amend", told(atCount(t, count, tag("a")).amend(t, "a", lined("1"))), want)
	}
	x := atCount(t, 1<<30-1)
	written(t, "Record", told(x.record(t, lined("1"))), "x.1073741824")
	for range 2 {
		written(t, "Record", told(x.record(t, lined("2"))), "!2")
		written(t, "Record of the same", told(x.record(t, lined("1"))), "!2")
		written(t, "Record of no tree", told(x.record(t, things(dir("a/b")))), "!1")
		written(t, "Tag", told(x.tag(t)), "!2")
		written(t, "Amend", told(x.amend(t, "x.1073741824", lined("2"))), "!2")
		written(t, "Amend of what is not there", told(x.amend(t, "x.1", lined("2"))), "!12")
		written(t, "Amend to no tree", told(x.amend(t, "x.1073741824", things(dir("a/b")))), "!1")
		written(t, "Apply", told("", x.apply(t, tag("x.1073741823"))), "")
		written(t, "Apply", told("", x.apply(t, tag("x.1073741825"))), "!31")
		written(t, "Unrecord", told("", x.unrecord(t, "x.1073741823")), "")
		x.has(t, 1<<30, "x.1073741824", "x.1073741824", "", lined("1"))
		written(t, "Open", told("", x.open(t)), "")
	}
}

// numbered are so many tags.
func numbered(n int) []api.Patch {
	var l []api.Patch
	for i := range n {
		l = append(l, tag(fmt.Sprintf("d.%03d", i)))
	}
	return l
}

// TestPatches: no more than 256 are there; each may be amended then.
func TestPatches(t *testing.T) {
	for n, want := range map[int]string{254: "", 255: "", 256: "!2"} {
		written(t, fmt.Sprint("Record beside ", n), told(atCount(t, 9, numbered(n)...).record(t, lined("1"))), strings.TrimSpace("x.10"[:4*(1-len(want)/2)]+want))
	}
	x := atCount(t, 9, numbered(255)...)
	written(t, "Tag", told(x.tag(t)), "x.10")
	written(t, "Deps", fmt.Sprint(len(x.r.Patches()[255].Deps)), "255")
	written(t, "Tag", told(x.tag(t)), "!2")
	written(t, "Record", told(x.record(t, lined("1"))), "!2")
	written(t, "Record of the same", told(x.record(t, nil)), "!2")
	written(t, "Record of no tree", told(x.record(t, things(dir("a/b")))), "!1")
	written(t, "Apply", told("", x.apply(t, tag("a"))), "!1")
	written(t, "Amend", told(x.amend(t, "x.10", lined("1"))), "x.11")
	written(t, "Amend", told(x.amend(t, "d.000", lined("1"))), "!81")
	written(t, "Amend", told(x.amend(t, "a", lined("1"))), "!12")
	written(t, "Unrecord", told("", x.unrecord(t, "d.100")), "")
	written(t, "Tag", told(x.tag(t)), "x.12")
	written(t, "Tag", told(x.tag(t)), "x.13")
	written(t, "Open", told("", x.open(t)), "")
	written(t, "Patches", fmt.Sprint(len(x.r.Patches())), "256")
}

// TestLongBodies: a patch has at most 256 changes, behind what is joined.
func TestLongBodies(t *testing.T) {
	x := begun(t, "x")
	written(t, "Record of 257", told(x.record(t, dirs(257))), "!2")
	written(t, "Record of 256", told(x.record(t, dirs(256))), "x.1")
	written(t, "Amend to 257", told(x.amend(t, "x.1", dirs(257))), "!2")
	x.has(t, 1, "x.1", "x.1", "", dirs(256))
	written(t, "Record of one more", told(x.record(t, dirs(257))), "x.2")
	written(t, "Record of 257 that go", told(x.record(t, nil)), "!2")
	// Of each text an AddText, and a Lines: 128 have 256.
	texts := func(n int) []api.Entry {
		var l []api.Entry
		for i := range n {
			l = append(l, text(fmt.Sprintf("t%03d", i), "1"))
		}
		return l
	}
	y := begun(t, "y")
	written(t, "Record of 129 texts", told(y.record(t, texts(129))), "!2")
	written(t, "Record of 128 texts", told(y.record(t, texts(128))), "y.1")
}

// TestNoTrees: they are refused first, but for what Amend asks of the name.
func TestNoTrees(t *testing.T) {
	x := begun(t, "x")
	x.record(t, lined("1"))
	x.record(t, lined("1 2"))
	was := x.d.Acts()
	for i, l := range [][]api.Entry{
		things(dir("a/b")), things(dir("b"), dir("a")), things(dir("a"), dir("a")), things(dir("A/")), things(dir("")), {{}}, things(api.Entry{Path: "a", Kind: 4}),
		things(text("a", "1"), text("a/b", "2")), things(api.Entry{Path: "a", Kind: api.KindDir, Data: "x"}), things(api.Entry{Path: "a", Kind: api.KindData, Lines: words("x")}), things(api.Entry{Path: "a", Kind: api.KindText, Lines: words("x\n")}), dirs(1025),
	} {
		what := fmt.Sprint("no tree ", i)
		written(t, what, told(x.record(t, l)), "!1")
		written(t, what, told(x.amend(t, "x.2", l)), "!1")
		written(t, what, told(x.amend(t, "x.1", l)), "!81")
		written(t, what, told(x.amend(t, "x.3", l)), "!12")
		written(t, what, told(x.amend(t, "", l)), "!12")
	}
	x.has(t, 2, "x.1 x.2<x.1", "x.1 x.2", "", lined("1 2"))
	if x.d.Acts() != was {
		t.Errorf("what is refused does %d acts", x.d.Acts()-was)
	}
}

// TestStandsOn: what another one stands on, through others too, done or left, is not amended.
func TestStandsOn(t *testing.T) {
	x := begun(t, "x")
	x.apply(t, tag("a"), tag("b a"), patch("c b", hunk(0, "1", "")), tag("d c"), tag("e"), tag("f e"))
	x.has(t, 0, "a b<a c<b d<c e f<e", "a b e f", "c d", nil)
	for name, want := range map[string]string{"a": "!81", "b": "!81", "c": "!81", "e": "!81", "g": "!12", "x.1": "!12"} {
		written(t, "Amend of "+name, told(x.amend(t, name, lined("1"))), want)
		written(t, "Amend of "+name, told(x.amend(t, name, nil)), want)
	}
	written(t, "Amend of d", told(x.amend(t, "d", lined("1"))), "x.1")
	x.has(t, 1, "a b<a c<b e f<e x.1<b<f", "a b e f x.1", "c", lined("1"))
	written(t, "Amend of f", told(x.amend(t, "f", lined("1"))), "!81")
	written(t, "Unrecord", told("", x.unrecord(t, "b", "f")), "")
	x.has(t, 1, "a e", "a e", "", nil)
	written(t, "Unrecord", told("", x.unrecord(t, "a", "b")), "!12")
	written(t, "Unrecord", told("", x.unrecord(t, "")), "!12")
	written(t, "Unrecord", told("", x.unrecord(t, "a", "a")), "")
	x.has(t, 1, "e", "e", "", nil)
}

// TestApplied: inventory.Join's errors, and own names behind these.
func TestApplied(t *testing.T) {
	x := begun(t, "x")
	x.record(t, lined("1"))
	x.apply(t, tag("a x.1"), tag("b a"))
	for i, c := range []struct {
		l    []api.Patch
		want string
	}{
		{patches(api.Patch{}), "!1"}, {patches(tag("A")), "!1"}, {patches(tag("c c")), "!1"}, {patches(tag("c"), tag("c")), "!1"}, {patches(tag("c"), patch("d", change(0, "a"))), "!1"}, {numbered(254), "!1"}, {numbered(257), "!1"},
		{patches(tag("a")), "!31"}, {patches(tag("a b")), "!31"}, {patches(tag("x.1")), "!31"}, {patches(patch("a x.1", change(1, "a"))), "!31"}, {patches(tag("c y"), tag("a")), "!31"},
		{patches(tag("c d")), "!141"}, {patches(tag("c d"), tag("d c")), "!141"}, {patches(tag("c x.2")), "!141"},
		{patches(tag("x.2")), "!31"}, {patches(tag("c"), tag("x.2 a")), "!31"}, {patches(tag("x.2 x.3")), "!141"}, {patches(tag("x.2"), tag("x.2")), "!1"}, {patches(tag("c x.10"), tag("x.10")), "!31"},
		{nil, ""}, {patches(tag("b a")), ""}, {patches(tag("d c"), tag("c b"), tag("a x.1")), ""}, {patches(tag("d c")), ""}, {numbered(251), ""}, {numbered(251), ""}, {numbered(252), "!1"},
	} {
		written(t, fmt.Sprint("Apply ", i), told("", x.apply(t, c.l...)), c.want)
	}
	if names := namesOf(x.r.Patches()[:4]); names != "a<x.1 b<a c<b d<c" || len(x.r.Patches()) != 256 {
		t.Errorf("there are %d, first %q", len(x.r.Patches()), names)
	}
}

// TestMoreRoom: a tree of all things that may be, beside which one is left; where a new patch makes room, that one would be done behind it.
func TestMoreRoom(t *testing.T) {
	x := begun(t, "x")
	for _, n := range []int{256, 512, 768, 1024} {
		x.record(t, dirs(n))
	}
	x.apply(t, patch("z", change(api.AddDir, "z")))
	x.has(t, 4, "x.1 x.2<x.1 x.3<x.2 x.4<x.3 z", "x.1 x.2 x.3 x.4", "z", dirs(1024))
	written(t, "Record of one less", told(x.record(t, dirs(1023))), "!81")
	x.has(t, 4, "x.1 x.2<x.1 x.3<x.2 x.4<x.3 z", "x.1 x.2 x.3 x.4", "z", dirs(1024))
	other := append(dirs(1023), dir("e"))
	written(t, "Record of another one", told(x.record(t, other)), "x.5")
	written(t, "Amend to one less", told(x.amend(t, "x.5", dirs(1023))), "!81")
	x.has(t, 5, "x.1 x.2<x.1 x.3<x.2 x.4<x.3 x.5<x.4 z", "x.1 x.2 x.3 x.4 x.5", "z", other)
	written(t, "Tag", told(x.tag(t)), "x.6")
	written(t, "Unrecord of z", told("", x.unrecord(t, "z")), "")
	written(t, "Record of one less", told(x.record(t, dirs(1023))), "x.7")
	// A lesser name is done ahead of the last ones, which are left.
	written(t, "Apply of a", told("", x.apply(t, patch("a", change(api.AddDir, "a")))), "")
	if s := x.r.State(); len(s.Tree) != 769 || !slices.Equal(s.Left, words("x.4", "x.5", "x.6", "x.7")) {
		t.Errorf("there are %d things, and %q is left", len(s.Tree), s.Left)
	}
	written(t, "Record", told(x.record(t, nil)), "!2")
	written(t, "Tag", told(x.tag(t)), "x.8")
	if p := x.r.Patches()[8]; p.Name != "x.8" || !slices.Equal(p.Deps, words("a", "x.3")) {
		t.Errorf("it is %s", show(p))
	}
}

// TestOtherTrees: what is done where there is room again may have the tree be another one in one field alone, or leave it as it is.
func TestOtherTrees(t *testing.T) {
	full := func(n int) []api.Entry { return append(dirs(n-2), data("o", "1"), text("t", "1")) }
	for what, c := range map[string]struct {
		body []api.Prim
		want string
	}{
		"nothing":      {nil, "x.6"},
		"a path":       {[]api.Prim{{Kind: api.Move, Path: "d0000", To: "d"}}, "!81"},
		"a last path":  {[]api.Prim{{Kind: api.Move, Path: "t", To: "z"}}, "!81"},
		"a kind":       {[]api.Prim{change(api.RmDir, "d0007"), change(api.AddText, "d0007")}, "!81"},
		"lines":        {[]api.Prim{hunk(1, "", "2")}, "!81"},
		"no lines":     {[]api.Prim{hunk(0, "1", "")}, "!81"},
		"data":         {[]api.Prim{{Kind: api.Bytes, Path: "o", From: "1", To: "2"}}, "!81"},
		"lines, twice": {[]api.Prim{hunk(1, "", "2"), hunk(1, "2", "")}, "x.6"},
		"one thing":    {[]api.Prim{change(api.RmDir, "d0001")}, "!81"},
	} {
		x := begun(t, "x")
		for _, n := range []int{250, 500, 750, 1000, 1024} {
			x.record(t, full(n))
		}
		x.apply(t, patch("z x.1", append([]api.Prim{change(api.AddDir, "q"), change(api.RmDir, "q")}, c.body...)...))
		if s := x.r.State(); !slices.Equal(s.Left, words("z")) {
			t.Fatalf("%s: %q is left", what, s.Left)
		}
		written(t, what, told(x.record(t, full(1023))), c.want)
	}
}

// TestDownDisk: without power each command tells that, where nothing else is wrong, and all stays.
func TestDownDisk(t *testing.T) {
	x := begun(t, "x")
	x.record(t, lined("1"))
	x.tag(t)
	x.fuse(0)
	for range 2 {
		written(t, "Record", told(x.record(t, lined("2"))), "!13")
		written(t, "Record of the same", told(x.record(t, lined("1"))), "!12")
		written(t, "Tag", told(x.tag(t)), "!13")
		written(t, "Amend", told(x.amend(t, "x.2", lined("2"))), "!13")
		written(t, "Amend of x.1", told(x.amend(t, "x.1", lined("2"))), "!81")
		written(t, "Unrecord", told("", x.unrecord(t, "x.1")), "!13")
		written(t, "Unrecord of x.3", told("", x.unrecord(t, "x.3")), "!12")
		written(t, "Apply", told("", x.apply(t)), "!13")
		written(t, "Apply", told("", x.apply(t, tag("x.1"))), "!31")
		x.has(t, 2, "x.1 x.2<x.1", "x.1 x.2", "", lined("1"))
	}
	x.crash(nil)
	written(t, "Record", told(x.record(t, lined("2"))), "x.3")
	x.fuse(0)
	x.d.Write("a", nil)
	x.e.Write("a", nil)
	written(t, "Open", told("", x.open(t)), "!13")
}
