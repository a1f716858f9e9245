package repo_test

import (
	"fmt"
	"strings"
	"testing"

	"counterpane/api"
	"counterpane/disk"
	"counterpane/named"
	"counterpane/sha"
)

// TestRooms does some commands on disks of every room, so that what is kept ends at each of its acts.
func TestRooms(t *testing.T) {
	seen := map[string]int{}
	for room := range 900 {
		x := on(func() *disk.Disk { return disk.New(room) })
		if e := x.init(t, "x"); e != api.OK {
			seen[told("Init", e)]++
			continue
		}
		litter := func() {
			for _, d := range []*disk.Disk{x.d, x.e} {
				d.Write("a", make([]byte, 20))
				d.Write("z", make([]byte, 5))
			}
		}
		count := func(what string, e api.Errno) {
			seen[told(what, e)]++
			x.open(t)
			litter()
		}
		_, e := x.record(t, lined("1"))
		count("Record", e)
		_, e = x.record(t, lined("1 2"))
		count("Record", e)
		_, e = x.amend(t, "x.2", lined("1 2 3"))
		count("Amend", e)
		count("Apply", x.apply(t, tag("y"), tag("z y")))
		_, e = x.tag(t)
		count("Tag", e)
		count("Unrecord", x.unrecord(t, "y"))
		count("Apply", x.apply(t))
	}
	for what, least := range map[string]int{"Init !11": 50, "Record": 500, "Record !11": 100, "Amend": 200, "Amend !11": 50, "Apply": 500, "Apply !11": 100, "Tag": 100, "Tag !11": 50, "Unrecord": 200} {
		if seen[what] < least {
			t.Errorf("%s was seen %d times", what, seen[what])
		}
	}
}

// TestLongPatches: a patch of more bytes than a file may have is not kept.
func TestLongPatches(t *testing.T) {
	x := begun(t, "x")
	of := func(n int) []api.Entry { return things(data("b", strings.Repeat("q", n))) }
	p, _ := named.Put(patch("x.1", change(api.AddData, "b"), api.Prim{Kind: api.Bytes, Path: "b", To: strings.Repeat("q", 60000)}))
	most := 60000 + api.MaxFile - len(p)
	written(t, "Record", told(x.record(t, of(most+1))), "!2")
	x.has(t, 0, "", "", "", nil)
	if n := len(x.d.Files()); n != 2 {
		t.Errorf("there are %d files", n)
	}
	written(t, "Record", told(x.record(t, of(most))), "x.1")
	written(t, "Amend", told(x.amend(t, "x.1", of(most+1))), "!2")
	written(t, "Amend", told(x.amend(t, "x.1", of(most))), "x.2")
	// What undoes it has as many bytes, and Deps.
	written(t, "Record", told(x.record(t, nil)), "!2")
	written(t, "Apply", told("", x.apply(t, tag("y"), patch("y.1", api.Prim{Kind: api.Bytes, Path: "b", To: strings.Repeat("q", api.MaxFile)}))), "!2")
	x.has(t, 2, "x.2", "x.2", "", of(most))
	if n := len(x.d.Files()); n != 3 {
		t.Errorf("there are %d files", n)
	}
}

// TestLitter: where files of others leave no place, a command ends, and sweeps them away, so that it can be done the next time.
func TestLitter(t *testing.T) {
	for n := range 6 {
		x := begun(t, "x")
		x.record(t, lined("1"))
		for _, d := range []*disk.Disk{x.d, x.e} {
			for i := range api.MaxFiles - 3 - n {
				if e := d.Write(fmt.Sprint("f", i), nil); e != api.OK {
					t.Fatalf("Write is %d", e)
				}
			}
		}
		want := "x.2"
		if n < 3 {
			want = "!2"
		}
		written(t, fmt.Sprint("Tag with room for files ", n), told(x.tag(t)), want)
		written(t, "files", fmt.Sprint(len(x.d.Files())), fmt.Sprint(2+len(x.r.Patches())))
		name := told(x.record(t, lined("1 2")))
		written(t, "Record", name, fmt.Sprintf("x.%d", x.m.count))
	}
}

// TestOtherBytes: other bytes of a name's file end what is kept; they are swept away, where they are not of what was kept.
func TestOtherBytes(t *testing.T) {
	x := begun(t, "x")
	x.record(t, lined("1"))
	write := func(b []byte, to string) {
		for _, d := range []*disk.Disk{x.d, x.e} {
			d.Write("o."+sha.Name(b)[:32], []byte(to))
		}
	}
	next := bytesOf(patches(tag("x.2 x.1")))[0]
	all := keptByWords("x", 2, patches(x.r.Patches()[0], tag("x.2 x.1")))
	for _, b := range [][]byte{next, all[2]} {
		write(b, "other bytes")
		written(t, "Tag", told(x.tag(t)), "!31")
		x.has(t, 1, "x.1", "x.1", "", lined("1"))
		if n := len(x.d.Files()); n != 3 {
			t.Errorf("there are %d files", n)
		}
	}
	written(t, "Tag", told(x.tag(t)), "x.2")
	write(all[0], "other bytes")
	for range 2 {
		written(t, "Tag", told(x.tag(t)), "!31")
	}
	x.has(t, 2, "x.1 x.2<x.1", "x.1 x.2", "", lined("1"))
	// Without the one whose file it is all is well.
	written(t, "Unrecord", told("", x.unrecord(t, "x.1")), "")
	written(t, "Record", told(x.record(t, lined("1"))), "x.3")
	written(t, "Open", told("", x.open(t)), "")
}
