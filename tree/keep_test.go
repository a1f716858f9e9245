package tree_test

import (
	"fmt"
	"math/rand"
	"slices"
	"strconv"
	"strings"
	"testing"

	"counterpane/api"
	"counterpane/disk"
	"counterpane/tree"
)

func roomy() *disk.Disk { return disk.New(1 << 26) }

// fileOf is the store's file of a name.
func fileOf(name string) string { return "o." + name[:32] }

// objects are the store's files of these bytes.
func objects(kept ...string) []api.File {
	var l []api.File
	there := map[string]int{}
	for _, k := range kept {
		f := fileOf(nameOf(k))
		if there[f]++; there[f] == 1 {
			l = append(l, api.File{Name: f, Data: []byte(k)})
		}
	}
	return l
}

// holding is a disk with these files, all synced.
func holding(t *testing.T, l ...api.File) *disk.Disk {
	t.Helper()
	d := disk.Of(1<<26, l)
	if d == nil {
		t.Fatal("no disk of these files")
	}
	return d
}

// look is all that a disk tells of itself but what is synced.
func look(d *disk.Disk) string {
	all := fmt.Sprint(d.Acts(), d.Loose(), d.Down())
	for _, f := range d.Files() {
		all += " " + f.Name + "=" + strconv.Quote(string(f.Data))
	}
	return all
}

// files are a disk's, as one text.
func files(l []api.File) string {
	l = slices.Clone(l)
	slices.SortFunc(l, func(x, y api.File) int { return strings.Compare(x.Name, y.Name) })
	return fmt.Sprintf("%q", l)
}

// distinct are those that stand there for the first time.
func distinct(l []string) []string {
	var out []string
	for _, s := range l {
		if !slices.Contains(out, s) {
			out = append(out, s)
		}
	}
	return out
}

func wantSave(t *testing.T, what string, d *disk.Disk, l []api.Entry, name string, wanted api.Errno) {
	t.Helper()
	if n, e := tree.Save(d, l); n != name || e != wanted {
		t.Errorf("%s: Save is %q, %d; want %q, %d", what, n, e, name, wanted)
	}
}

func wantLoad(t *testing.T, what string, d *disk.Disk, name string, l []api.Entry, wanted api.Errno) {
	t.Helper()
	ahead := look(d)
	m, e := tree.Load(d, name)
	if e != wanted || !alike(m, l) {
		t.Errorf("%s: Load is %s, %d; want %s, %d", what, show(m), e, show(l), wanted)
	}
	if look(d) != ahead {
		t.Errorf("%s: Load changed the disk", what)
	}
}

func TestSaveRefusesWhatIsNoTree(t *testing.T) {
	for what, l := range noTrees() {
		d := holding(t, objects("d", "tx\n")...)
		ahead := look(d)
		wantSave(t, what, d, l, "", api.ErrArg)
		if look(d) != ahead {
			t.Errorf("%s: the disk is changed", what)
		}
	}
	dead := roomy()
	dead.Fuse(0)
	dead.Sync()
	wantSave(t, "without power", dead, []api.Entry{{}}, "", api.ErrArg)
}

// TestSaveInOrder has the power go ahead of each act: what was put ahead of it is there, and nothing else; behind the last one all is.
func TestSaveInOrder(t *testing.T) {
	for _, l := range trees()[:60] {
		all := distinct(keptByWords(l, ""))
		for fuse := range len(all) + 2 {
			d := roomy()
			d.Fuse(fuse)
			name, e := tree.Save(d, l)
			n := min(fuse, len(all))
			if files(d.Files()) != files(objects(all[:n]...)) || d.Acts() != n || d.Loose() != n {
				t.Fatalf("fuse %d: %s: the files are %s", fuse, show(l), show(names(d)))
			}
			if fuse < len(all) && (name != "" || e != api.ErrDown || !d.Down()) || fuse >= len(all) && (name != treeName(l) || e != api.OK) {
				t.Fatalf("fuse %d: %s: Save is %q, %d", fuse, show(l), name, e)
			}
		}
	}
}

func names(d *disk.Disk) []string {
	var l []string
	for _, f := range d.Files() {
		l = append(l, f.Name)
	}
	return l
}

// TestSaveByHand: what lies in a directory is put ahead of it, and what stands behind it by bytes, `a-b`, behind it, although `a/c` is behind that.
func TestSaveByHand(t *testing.T) {
	l := []api.Entry{dir("a"), data("a-b", "1"), text("a/c", "x"), dir("a/d")}
	sub := "d2 c " + nameOf("tx\n") + "\n1 d " + nameOf("d") + "\n"
	top := "d1 a " + nameOf(sub) + "\n3 a-b " + nameOf("b1") + "\n"
	for n, order := 0, []string{"tx\n", "d", sub, "b1", top}; n <= len(order); n++ {
		d := roomy()
		d.Fuse(n)
		tree.Save(d, l)
		if files(d.Files()) != files(objects(order[:n]...)) {
			t.Errorf("behind %d acts: %s", n, show(names(d)))
		}
	}
}

// TestSaveClashes: the first file that has other bytes ends it; what was put ahead of it stays.
func TestSaveClashes(t *testing.T) {
	l := some()
	all := distinct(keptByWords(l, ""))
	for n, k := range all {
		clash := api.File{Name: fileOf(nameOf(k)), Data: []byte(k + "?")}
		d := holding(t, clash)
		wantSave(t, strconv.Itoa(n), d, l, "", api.ErrClash)
		if files(d.Files()) != files(append(objects(all[:n]...), clash)) || d.Acts() != n {
			t.Errorf("%d: the files are %s", n, show(names(d)))
		}
	}
}

func TestSaveTellsTheDisksErrors(t *testing.T) {
	crowd := func(n int) *disk.Disk {
		var l []api.File
		for i := range n {
			l = append(l, api.File{Name: "f" + strconv.Itoa(i)})
		}
		return disk.Of(1<<20, l)
	}
	dead := func(l ...api.File) *disk.Disk {
		d := holding(t, l...)
		d.Fuse(0)
		d.Sync()
		return d
	}
	one := []api.Entry{text("a", "x")}
	cases := map[string]struct {
		d      *disk.Disk
		l      []api.Entry
		wanted api.Errno
		acts   int
	}{
		"no room":                   {disk.New(0), nil, api.ErrFull, 0},
		"room for a text":           {disk.New(3), one, api.ErrFull, 1},
		"a text that is too long":   {roomy(), []api.Entry{data("a", "x"), text("b", make([]string, api.MaxFile)...)}, api.ErrTooMany, 1},
		"data that are too long":    {roomy(), []api.Entry{data("a", strings.Repeat("x", api.MaxFile)), text("b")}, api.ErrTooMany, 0},
		"a directory of too many":   {roomy(), wide(mostRows + 1), api.ErrTooMany, 1},
		"too many files":            {crowd(api.MaxFiles), one, api.ErrTooMany, 0},
		"too many files for a tree": {crowd(api.MaxFiles - 1), one, api.ErrTooMany, 1},
		"without power":             {dead(), one, api.ErrDown, 0},
		"without power, none":       {dead(), nil, api.ErrDown, 0},
		"without power, all there":  {dead(objects(keptByWords(one, "")...)...), one, api.ErrDown, 0},
	}
	for what, c := range cases {
		wantSave(t, what, c.d, c.l, "", c.wanted)
		if c.d.Acts() != c.acts {
			t.Errorf("%s: %d acts", what, c.d.Acts())
		}
	}
}

// TestSaveTakesAllThatFits: the edges of what a disk keeps, and back.
func TestSaveTakesAllThatFits(t *testing.T) {
	for i, l := range [][]api.Entry{
		{text("a", make([]string, api.MaxFile-1)...)}, {data("a", strings.Repeat("\xff", api.MaxFile-1))}, wide(mostRows), crowded(api.MaxEntries), chain(api.MaxDeep), chain(api.MaxDeep-1, text("t", "x"), data("u", "")),
	} {
		d := roomy()
		wantSave(t, strconv.Itoa(i), d, l, treeName(l), api.OK)
		wantLoad(t, strconv.Itoa(i), d, treeName(l), l, api.OK)
	}
	d := disk.New(len("d") + len("2 a ") + 64 + len("\n") + len("tx\n"))
	l := []api.Entry{text("a", "x")}
	wantSave(t, "just the room", d, l, treeName(l), api.OK)
}

// mostRows is how many rows of parts of three bytes a directory's file has room for.
const mostRows = (api.MaxFile - len("d")) / (len("2 000 ") + 64 + len("\n"))

// wide is a tree of n empty texts, with parts of three bytes.
func wide(n int) []api.Entry {
	var l []api.Entry
	for i := range n {
		l = append(l, text(fmt.Sprintf("%03d", i)))
	}
	return l
}

// crowded is a tree of n things, many of them alike, so that few files are kept.
func crowded(n int) []api.Entry {
	var l []api.Entry
	for i := 0; len(l) < n; i++ {
		l = append(l, dir(fmt.Sprintf("d%02d", i)))
		for j := 0; j < 60 && len(l) < n; j++ {
			l = append(l, text(fmt.Sprintf("d%02d/%02d", i, j), "x"))
		}
	}
	return l
}

// TestThereAndBack is P7.2, on a disk of its own and on one that has many trees; behind a sync it stays.
func TestThereAndBack(t *testing.T) {
	common := roomy()
	for i, l := range trees() {
		d := roomy()
		name, e := tree.Save(d, l)
		if e == api.ErrTooMany && len(distinct(keptByWords(l, ""))) > api.MaxFiles {
			continue
		}
		if e != api.OK {
			t.Fatalf("%d: Save is %q, %d", i, name, e)
		}
		wantLoad(t, "alone", d, name, l, api.OK)
		d.Sync()
		d.Crash(nil)
		wantLoad(t, "behind a crash", d, name, l, api.OK)
		if i >= 40 {
			continue
		}
		if n, e := tree.Save(common, l); n != name || e != api.OK {
			t.Fatalf("%d: Save is %q, %d", i, n, e)
		}
	}
	for _, l := range trees()[:40] {
		wantLoad(t, "among others", common, treeName(l), l, api.OK)
	}
}

// TestKeptOnce is P7.3: a tree once more is no act, and of a changed one only what is new is one.
func TestKeptOnce(t *testing.T) {
	r := rand.New(rand.NewSource(3))
	for i, l := range trees()[:120] {
		d := roomy()
		tree.Save(d, l)
		ahead := look(d)
		d.Fuse(0)
		wantSave(t, "once more", d, l, treeName(l), api.OK)
		if look(d) != ahead {
			t.Fatalf("%d: once more changed the disk", i)
		}
		d.Fuse(-1)
		m := append(copyOf(l), text("zz", "new "+strconv.Itoa(r.Int())))
		acts := d.Acts()
		wantSave(t, "changed", d, m, treeName(m), api.OK)
		if d.Acts() != acts+2 {
			t.Fatalf("%d: one more text was %d acts", i, d.Acts()-acts)
		}
	}
	d := roomy()
	same := []api.Entry{dir("a"), text("a/t", "x"), dir("b"), text("b/t", "x"), text("c", "x")}
	wantSave(t, "alike things", d, same, treeName(same), api.OK)
	if d.Acts() != 3 {
		t.Errorf("alike things were %d acts", d.Acts())
	}
}

// TestSavedIsNotKept: what is done to the list behind a Save is not to be seen.
func TestSavedIsNotKept(t *testing.T) {
	l, d := some(), roomy()
	name, _ := tree.Save(d, l)
	for i := range l {
		for j := range l[i].Lines {
			l[i].Lines[j] = "changed"
		}
		l[i] = api.Entry{}
	}
	wantLoad(t, "behind it", d, name, some(), api.OK)
}

// TestLoadedIsNew: what is done to an answer, and to its spare room, is not to be seen in another one, nor in another list of it.
func TestLoadedIsNew(t *testing.T) {
	d := roomy()
	name, _ := tree.Save(d, some())
	first, _ := tree.Load(d, name)
	for i := range first {
		lines := first[i].Lines[:cap(first[i].Lines)]
		was := copyOf(first)
		for j := range lines {
			lines[j] = "changed"
		}
		was[i] = first[i]
		if !alike(first, was) {
			t.Fatalf("%s became %s", show(was), show(first))
		}
	}
	for i := range first[:cap(first)] {
		first[:cap(first)][i] = api.Entry{Path: "changed"}
	}
	wantLoad(t, "once more", d, name, some(), api.OK)
}
