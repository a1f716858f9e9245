package repo

import (
	"bytes"
	"slices"
	"strconv"
	"strings"

	"counterpane/api"
	"counterpane/disk"
	"counterpane/named"
	"counterpane/sha"
	"counterpane/store"
)

// mark ends a number.
const mark = ":"

// files are the bytes that are kept: of each patch, and of the inventory last.
func (k kept) files() [][]byte {
	var l [][]byte
	for _, p := range k.patches {
		// What is there is right, so that it has bytes.
		b, _ := named.Put(p)
		l = append(l, b)
	}
	return append(l, inventoryOf(k.id, k.count, namesOf(l)))
}

// namesOf are the names that bytes have in the store.
func namesOf(l [][]byte) []string {
	var names []string
	for _, b := range l {
		names = append(names, sha.Name(b))
	}
	return names
}

// save has k be what a disk keeps: the names in the store of all that it keeps.
func save(d *disk.Disk, k kept) ([]string, api.Errno) {
	var names []string
	for _, b := range k.files() {
		name, e := store.Put(d, b)
		if e != api.OK {
			return nil, e
		}
		names = append(names, name)
	}
	return names, store.SetRoot(d, names[len(names)-1])
}

// load is what a disk keeps by an inventory's name, and the names of its patches in the store.
func load(d *disk.Disk, root string) (kept, []string, api.Errno) {
	b, e := store.Get(d, root)
	if e != api.OK {
		return kept{}, nil, unread(e)
	}
	k, names, is := ofInventory(b)
	if !is {
		return kept{}, nil, api.ErrCorrupt
	}
	var l []api.Patch
	for _, name := range names {
		b, e := store.Get(d, name)
		if e != api.OK {
			return kept{}, nil, unread(e)
		}
		p, e := named.Get(b)
		if e != api.OK {
			return kept{}, nil, api.ErrCorrupt
		}
		l = append(l, p)
	}
	if !slices.IsSortedFunc(l, byName) || !k.mayHave(l) {
		return kept{}, nil, api.ErrCorrupt
	}
	return k.with(k.count, l), names, api.OK
}

// unread is the error of what cannot be read, and should be there.
func unread(e api.Errno) api.Errno {
	if e == api.ErrDown {
		return e
	}
	return api.ErrCorrupt
}

func byName(p, q api.Patch) int { return strings.Compare(p.Name, q.Name) }

// inventoryOf is an inventory's bytes.
func inventoryOf(id string, count int, names []string) []byte {
	var b []byte
	number := func(n int) { b = append(strconv.AppendInt(b, int64(n), 10), mark...) }
	text := func(s string) {
		number(len(s))
		b = append(b, s...)
	}
	text(id)
	number(count)
	number(len(names))
	for _, name := range names {
		text(name)
	}
	return b
}

// ofInventory is the id, the count and the names of an inventory's bytes; false: they are no inventory's.
func ofInventory(b []byte) (kept, []string, bool) {
	rest := string(b)
	number := func() int {
		before, behind, _ := strings.Cut(rest, mark)
		rest = behind
		n, _ := strconv.Atoi(before)
		return max(n, 0)
	}
	text := func() string {
		// The number is taken off in a statement of its own: in one with what is left behind it, Go leaves open which is read first.
		n := number()
		s := rest[:min(n, len(rest))]
		rest = rest[len(s):]
		return s
	}
	k := kept{id: text(), count: number()}
	var names []string
	for range number() {
		// The number may be far greater than what is left.
		if rest == "" {
			break
		}
		names = append(names, text())
	}
	// What is not there was taken as something else, or less: then these are other bytes.
	same := bytes.Equal(inventoryOf(k.id, k.count, names), b)
	return k, names, same && isId(k.id) && k.count <= api.MaxCount
}
