// Package disk is layer 1: see shared/doc/01-disk.md.
package disk

import (
	"bytes"
	"maps"
	"slices"

	"counterpane/api"
)

// noFuse stands below 0, for 0 is a fuse that has burnt down.
const noFuse = -1

// change is kept as what it does, so that a crash can do it once more on other files.
type change func(files map[string][]byte)

// Disk is files, of which what was not synced may be lost, each change by itself.
// Bytes in its maps are never written to, so that the maps may share them.
type Disk struct {
	room    int
	files   map[string][]byte
	synced  map[string][]byte
	changes []change
	acts    int
	fuse    int
	down    bool
}

// New is an empty one, of so much room.
func New(room int) *Disk {
	return &Disk{
		room:   max(room, 0),
		files:  map[string][]byte{},
		synced: map[string][]byte{},
		fuse:   noFuse,
	}
}

// Of is one that has these files, all synced, or nil. They need not fit the room: that bounds writes alone.
func Of(room int, l []api.File) *Disk {
	if len(l) > api.MaxFiles {
		return nil
	}
	d := New(room)
	for _, f := range l {
		if !isName(f.Name) || d.has(f.Name) || len(f.Data) > api.MaxFile {
			return nil
		}
		d.files[f.Name] = bytes.Clone(f.Data)
	}
	d.settle()
	return d
}

// Write has a file of that name be b.
func (d *Disk) Write(name string, b []byte) api.Errno {
	if e := d.power(); e != api.OK {
		return e
	}
	if e := d.refusal(name, len(b)); e != api.OK {
		return e
	}
	data := bytes.Clone(b)
	d.do(func(files map[string][]byte) { files[name] = data })
	return api.OK
}

// Rename has the file of from be that of to.
func (d *Disk) Rename(from string, to string) api.Errno {
	if e := d.power(); e != api.OK {
		return e
	}
	if !isName(to) {
		return api.ErrArg
	}
	if !d.has(from) {
		return api.ErrNone
	}
	d.do(func(files map[string][]byte) {
		// What made from may not have been kept by a crash.
		data, there := files[from]
		if !there {
			return
		}
		// In this order a file that is renamed to its own name stays.
		delete(files, from)
		files[to] = data
	})
	return api.OK
}

// Remove takes a file away.
func (d *Disk) Remove(name string) api.Errno {
	if e := d.power(); e != api.OK {
		return e
	}
	if !d.has(name) {
		return api.ErrNone
	}
	d.do(func(files map[string][]byte) { delete(files, name) })
	return api.OK
}

// Sync has all stay as it is.
func (d *Disk) Sync() api.Errno {
	if e := d.power(); e != api.OK {
		return e
	}
	d.settle()
	d.count()
	return api.OK
}

// Read is a file's bytes. It is no act: a fuse that has burnt down does not stop it.
func (d *Disk) Read(name string) ([]byte, api.Errno) {
	if d.down {
		return nil, api.ErrDown
	}
	data, there := d.files[name]
	if !there {
		return nil, api.ErrNone
	}
	return bytes.Clone(data), api.OK
}

// Files are all, by rising names.
func (d *Disk) Files() []api.File {
	l := make([]api.File, 0, len(d.files))
	for _, name := range slices.Sorted(maps.Keys(d.files)) {
		l = append(l, api.File{Name: name, Data: bytes.Clone(d.files[name])})
	}
	return l
}

// Used is how many bytes all files have together.
func (d *Disk) Used() int {
	n := 0
	for _, data := range d.files {
		n += len(data)
	}
	return n
}

// Acts is how many acts were done.
func (d *Disk) Acts() int { return d.acts }

// Loose is how many changes are not synced.
func (d *Disk) Loose() int { return len(d.changes) }

// Fuse has the power go ahead of the act behind n more; below 0 there is none.
func (d *Disk) Fuse(n int) { d.fuse = max(n, noFuse) }

// Down tells whether the power is gone.
func (d *Disk) Down() bool { return d.down }

// Crash keeps those changes whose place in keep is true, and has the power come back.
// Kept ones are not held against the bounds again: a write may stay where the removal that made room for it does not.
func (d *Disk) Crash(keep []bool) {
	d.files = maps.Clone(d.synced)
	for i, again := range d.changes {
		if i < len(keep) && keep[i] {
			again(d.files)
		}
	}
	d.settle()
	d.fuse = noFuse
	d.down = false
}

// power is asked ahead of all that an act looks at: even one that would be refused burns out on a fuse of 0.
func (d *Disk) power() api.Errno {
	if d.fuse == 0 {
		d.down = true
	}
	if d.down {
		return api.ErrDown
	}
	return api.OK
}

// refusal is why so many bytes may not be written to a name.
func (d *Disk) refusal(name string, size int) api.Errno {
	if !isName(name) {
		return api.ErrArg
	}
	if size > api.MaxFile || !d.has(name) && len(d.files) >= api.MaxFiles {
		return api.ErrTooMany
	}
	if d.Used()-len(d.files[name])+size > d.room {
		return api.ErrFull
	}
	return api.OK
}

// do has a change done now, and keeps it for a crash.
func (d *Disk) do(c change) {
	c(d.files)
	d.changes = append(d.changes, c)
	d.count()
}

// count is what is common to all acts that are done.
func (d *Disk) count() {
	d.acts++
	if d.fuse > 0 {
		d.fuse--
	}
}

// settle has the files as they are be the synced ones.
func (d *Disk) settle() {
	d.synced = maps.Clone(d.files)
	d.changes = nil
}

func (d *Disk) has(name string) bool {
	_, there := d.files[name]
	return there
}

func isName(s string) bool {
	if len(s) < 1 || len(s) > api.MaxName {
		return false
	}
	for i := range len(s) {
		if !inName(s[i]) {
			return false
		}
	}
	return true
}

func inName(c byte) bool {
	return 'a' <= c && c <= 'z' || '0' <= c && c <= '9' || c == '.' || c == '-'
}
