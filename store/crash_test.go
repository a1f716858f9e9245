package store_test

import (
	"strconv"
	"testing"

	"counterpane/api"
	"counterpane/disk"
	"counterpane/sha"
	"counterpane/store"
)

// scene is what was done ahead of a SetRoot: begun is what an earlier one left of root.new, loose what was put and not synced.
type scene struct {
	root  string
	begun string
	swept bool
	loose []string
}

func scenes() []scene {
	var l []scene
	for _, root := range []string{"", nameOf("old"), nameOf("new")} {
		for _, begun := range []string{"", "x", nameOf("begun"), nameOf("new")} {
			for _, swept := range []bool{false, true} {
				for _, loose := range [][]string{nil, {"new"}, {"new", "other"}, {"other", "", "new"}} {
					l = append(l, scene{root, begun, swept, loose})
				}
			}
		}
	}
	return l
}

// lay is a disk of the scene, its fuse burning from the first put on.
func (s scene) lay(t *testing.T, fuse int) *disk.Disk {
	t.Helper()
	l := []api.File{file(fileOf(nameOf("old")), "old"), file("litter", "1")}
	if s.root != "" {
		l = append(l, file("root", s.root))
	}
	if s.begun != "" {
		l = append(l, file("root.new", s.begun))
	}
	d := full(t, room, l...)
	d.Fuse(fuse)
	return d
}

// play is what the scene does on its disk, and the SetRoot behind it; the first error ends it.
func (s scene) play(d *disk.Disk) api.Errno {
	for _, data := range s.loose {
		if _, e := store.Put(d, []byte(data)); e != api.OK {
			return e
		}
	}
	if s.swept {
		if e := store.Sweep(d, s.keep()); e != api.OK {
			return e
		}
	}
	return store.SetRoot(d, nameOf("new"))
}

func (s scene) keep() []string {
	l := []string{nameOf("old")}
	for _, data := range s.loose {
		l = append(l, nameOf(data))
	}
	return l
}

// kept are the places whose bits are set.
func kept(bits, many int) []bool {
	l := make([]bool, many)
	for i := range l {
		l[i] = bits>>i&1 == 1
	}
	return l
}

// checkOnce holds the disk behind a crash against P3.2.
func checkOnce(t *testing.T, what string, s scene, answer api.Errno, d *disk.Disk) {
	t.Helper()
	root, e := store.Root(d)
	was := s.root != "" && e == api.OK && root == s.root || s.root == "" && e == api.ErrNone && root == ""
	isNew := e == api.OK && root == nameOf("new")
	if !was && !isNew {
		t.Error(what, "the root is", root, e)
	}
	if answer == api.OK && !isNew {
		t.Error(what, "the root is not the new one:", root, e)
	}
	if isNew && s.root != nameOf("new") || answer == api.OK {
		for _, data := range s.loose {
			wantGet(t, d, nameOf(data), data, api.OK)
		}
	}
	wantGet(t, d, nameOf("old"), "old", api.OK)
}

// TestAtOnce has the power go ahead of every act of every scene, and behind the last one, and keeps every choice of what is loose then.
func TestAtOnce(t *testing.T) {
	for i, s := range scenes() {
		for fuse, ended := 0, false; !ended; fuse++ {
			d := s.lay(t, fuse)
			answer := s.play(d)
			ended = answer == api.OK
			if !ended && answer != api.ErrDown {
				t.Fatal("scene", i, "fuse", fuse, "answers", answer)
			}
			many := d.Loose()
			for bits := range 1 << many {
				d := s.lay(t, fuse)
				s.play(d)
				d.Crash(kept(bits, many))
				checkOnce(t, "scene "+strconv.Itoa(i)+" fuse "+strconv.Itoa(fuse)+" bits "+strconv.Itoa(bits), s, answer, d)
			}
		}
	}
}

// Some choice of what is kept shows the new root although it was not answered: the power may go behind the rename.
func TestBothRootsAreSeen(t *testing.T) {
	seen := map[string]int{}
	for bits := range 2 {
		s := scene{root: nameOf("old"), loose: []string{"new"}}
		d := s.lay(t, 5)
		if e := s.play(d); e != api.ErrDown || d.Loose() != 1 {
			t.Fatal(e, d.Loose())
		}
		d.Crash(kept(bits, 1))
		root, _ := store.Root(d)
		seen[root]++
	}
	if seen[nameOf("old")] != 1 || seen[nameOf("new")] != 1 {
		t.Error(seen)
	}
}

// TestOnceMore goes on behind each crash: a SetRoot, a Sweep, and what is left is what was kept.
func TestOnceMore(t *testing.T) {
	for i, s := range scenes() {
		for fuse := range 16 {
			d := s.lay(t, fuse)
			s.play(d)
			d.Crash(kept(1<<(fuse%3), d.Loose()))
			for _, data := range []string{"new", "last"} {
				wantPut(t, d, data, sha.Name([]byte(data)), api.OK)
			}
			if e := store.SetRoot(d, nameOf("last")); e != api.OK {
				t.Fatal("scene", i, "fuse", fuse, "answers", e)
			}
			if e := store.Sweep(d, []string{nameOf("last"), nameOf("new")}); e != api.OK {
				t.Fatal("scene", i, "fuse", fuse, "answers", e)
			}
			d.Crash(nil)
			wantRoot(t, d, nameOf("last"), api.OK)
			wantGet(t, d, nameOf("last"), "last", api.OK)
			wantGet(t, d, nameOf("new"), "new", api.OK)
			if len(d.Files()) != 3 {
				t.Error("scene", i, "fuse", fuse, "files", names(d))
			}
		}
	}
}
