package store_test

import (
	"bytes"
	"math/rand"
	"reflect"
	"slices"
	"strconv"
	"strings"
	"testing"

	"counterpane/api"
	"counterpane/disk"
	"counterpane/sha"
	"counterpane/store"
)

const (
	room    = 1 << 20
	abcName = "ba7816bf8f01cfea414140de5dae2223b00361a396177a9cb410ff61f20015ad"
	abcFile = "o.ba7816bf8f01cfea414140de5dae2223"
)

// view is all that a disk tells of itself but what is synced, which only a crash shows.
type view struct {
	files string
	acts  int
	loose int
	down  bool
}

func look(d *disk.Disk) view {
	return view{shown(d.Files()), d.Acts(), d.Loose(), d.Down()}
}

// shown is files as one text, in the order in which they come.
func shown(l []api.File) string {
	var out []string
	for _, f := range l {
		out = append(out, f.Name+"="+strconv.Quote(string(f.Data)))
	}
	return strings.Join(out, " ")
}

func names(d *disk.Disk) []string {
	l := []string{}
	for _, f := range d.Files() {
		l = append(l, f.Name)
	}
	return l
}

// nameOf and fileOf are told here once more, so that the tests hold the program's against them.
func nameOf(data string) string { return sha.Name([]byte(data)) }

func fileOf(name string) string { return "o." + name[:32] }

// full is a disk that has just these files, all synced, and the files' bytes as its room.
func full(t *testing.T, more int, l ...api.File) *disk.Disk {
	t.Helper()
	used := 0
	for _, f := range l {
		used += len(f.Data)
	}
	d := disk.Of(used+more, l)
	if d == nil {
		t.Fatal("no disk of these files")
	}
	return d
}

func file(name, data string) api.File { return api.File{Name: name, Data: []byte(data)} }

// crowd is many files of no bytes.
func crowd(many int) []api.File {
	var l []api.File
	for i := range many {
		l = append(l, file("f"+strconv.Itoa(i), ""))
	}
	return l
}

// dead is a disk with these files whose power is gone.
func dead(t *testing.T, l ...api.File) *disk.Disk {
	t.Helper()
	d := full(t, room, l...)
	d.Fuse(0)
	if e := d.Sync(); e != api.ErrDown {
		t.Fatal("the power is not gone:", e)
	}
	return d
}

func wantPut(t *testing.T, d *disk.Disk, data, name string, wanted api.Errno) {
	t.Helper()
	n, e := store.Put(d, []byte(data))
	if n != name || e != wanted {
		t.Errorf("Put: got %q, %d; want %q, %d", n, e, name, wanted)
	}
}

func wantGet(t *testing.T, d *disk.Disk, name, data string, wanted api.Errno) {
	t.Helper()
	b, e := store.Get(d, name)
	if string(b) != data || e != wanted {
		t.Errorf("Get(%q): got %q, %d; want %q, %d", name, b, e, data, wanted)
	}
}

func wantRoot(t *testing.T, d *disk.Disk, name string, wanted api.Errno) {
	t.Helper()
	n, e := store.Root(d)
	if n != name || e != wanted {
		t.Errorf("Root: got %q, %d; want %q, %d", n, e, name, wanted)
	}
}

func wantView(t *testing.T, what string, d *disk.Disk, wanted view) {
	t.Helper()
	if got := look(d); got != wanted {
		t.Errorf("%s: got %+v, want %+v", what, got, wanted)
	}
}

// noNames are texts that are no names, some of them nearly.
func noNames() []string {
	return []string{
		"", "x", "root", abcFile, abcName[:32], abcName[:63], abcName + "0", abcName + "\n",
		strings.ToUpper(abcName), " " + abcName[1:], abcName[:63] + "g", "/" + abcName[1:],
		abcName[:32] + "\x00" + abcName[33:], abcName + abcName, strings.Repeat("é", 32),
	}
}

func TestPutWritesTheFileOfItsName(t *testing.T) {
	d := disk.New(room)
	wantPut(t, d, "abc", abcName, api.OK)
	wantView(t, "behind Put", d, view{files: abcFile + `="abc"`, acts: 1, loose: 1})
	wantGet(t, d, abcName, "abc", api.OK)
	wantView(t, "behind Get", d, view{files: abcFile + `="abc"`, acts: 1, loose: 1})
}

func TestPutTwiceIsOneFile(t *testing.T) {
	d := disk.New(room)
	for range 3 {
		wantPut(t, d, "abc", abcName, api.OK)
		wantPut(t, d, "", nameOf(""), api.OK)
	}
	files := abcFile + `="abc" ` + fileOf(nameOf("")) + `=""`
	wantView(t, "behind all", d, view{files: files, acts: 2, loose: 2})
}

func TestWhatIsThereIsPutWithoutAnAct(t *testing.T) {
	d := full(t, 0, append(crowd(api.MaxFiles-1), file(abcFile, "abc"))...)
	ahead := look(d)
	d.Fuse(0)
	wantPut(t, d, "abc", abcName, api.OK)
	wantView(t, "on a full disk with a fuse of 0", d, ahead)
}

func TestPutClashes(t *testing.T) {
	for _, data := range []string{"", "ab", "abd", "abcd", "xbc", "ABC", "abc\x00", strings.Repeat("abc", 100)} {
		d := full(t, room, file(abcFile, data))
		ahead := look(d)
		wantPut(t, d, "abc", "", api.ErrClash)
		wantView(t, "behind a clash with "+strconv.Quote(data), d, ahead)
	}
	d := full(t, room, file(fileOf(nameOf("")), "x"))
	wantPut(t, d, "", "", api.ErrClash)
}

func TestPutTellsTheDisksErrors(t *testing.T) {
	long := strings.Repeat("l", api.MaxFile+1)
	cases := map[string]struct {
		d      *disk.Disk
		data   string
		wanted api.Errno
	}{
		"longer than a file":              {disk.New(room), long, api.ErrTooMany},
		"longer than a file and the room": {disk.New(0), long, api.ErrTooMany},
		"no room":                         {full(t, 2, file("a", "1")), "abc", api.ErrFull},
		"too many files":                  {full(t, 2, crowd(api.MaxFiles)...), "abc", api.ErrTooMany},
		"the power is gone":               {dead(t), "abc", api.ErrDown},
		"the power is gone, it is there":  {dead(t, file(abcFile, "abc")), "abc", api.ErrDown},
		"the power is gone, it is other":  {dead(t, file(abcFile, "abd")), "abc", api.ErrDown},
		"the power is gone, it is long":   {dead(t), long, api.ErrDown},
	}
	for what, c := range cases {
		ahead := look(c.d)
		wantPut(t, c.d, c.data, "", c.wanted)
		wantView(t, what, c.d, ahead)
	}
}

func TestPutBurnsOutOnItsFuse(t *testing.T) {
	d := disk.New(room)
	d.Fuse(0)
	wantPut(t, d, "abc", "", api.ErrDown)
	wantView(t, "behind it", d, view{down: true})
}

func TestPutTakesAllThatFits(t *testing.T) {
	d := full(t, api.MaxFile, crowd(api.MaxFiles-1)...)
	long := strings.Repeat("l", api.MaxFile)
	wantPut(t, d, long, nameOf(long), api.OK)
	wantGet(t, d, nameOf(long), long, api.OK)
}

func TestGetRefusesWhatIsNoName(t *testing.T) {
	for _, name := range noNames() {
		d := full(t, room, file(abcFile, "abc"), file("root", abcName))
		wantGet(t, d, name, "", api.ErrArg)
		wantGet(t, dead(t, file(abcFile, "abc")), name, "", api.ErrArg)
	}
}

func TestGetTellsTheDisksErrors(t *testing.T) {
	wantGet(t, disk.New(room), abcName, "", api.ErrNone)
	wantGet(t, full(t, 0, file("o."+abcName, "abc"), file(abcName, "abc")), abcName, "", api.ErrNone)
	wantGet(t, dead(t, file(abcFile, "abc")), abcName, "", api.ErrDown)
	wantGet(t, dead(t), abcName, "", api.ErrDown)
	wantGet(t, dead(t, file(abcFile, "abd")), abcName, "", api.ErrDown)
}

func TestGetReadsAheadOfABurntFuse(t *testing.T) {
	d := full(t, room, file(abcFile, "abc"))
	d.Fuse(0)
	wantGet(t, d, abcName, "abc", api.OK)
}

func TestGetFindsOtherBytes(t *testing.T) {
	for _, data := range []string{"", "abd", "ab", "abcd", "Abc", "abc\n"} {
		wantGet(t, full(t, 0, file(abcFile, data)), abcName, "", api.ErrCorrupt)
	}
}

// A name that has the same first digits has the same file; the digits behind them tell it apart.
func TestGetAsksTheWholeName(t *testing.T) {
	d := full(t, 0, file(abcFile, "abc"))
	for i := 32; i < len(abcName); i++ {
		digit := "0"
		if abcName[i] == '0' {
			digit = "1"
		}
		wantGet(t, d, abcName[:i]+digit+abcName[i+1:], "", api.ErrCorrupt)
	}
	wantGet(t, d, abcName, "abc", api.OK)
}

func TestRoot(t *testing.T) {
	wantRoot(t, disk.New(room), "", api.ErrNone)
	wantRoot(t, full(t, 0, file("root.new", abcName)), "", api.ErrNone)
	wantRoot(t, full(t, 0, file("root", abcName)), abcName, api.OK)
	wantRoot(t, dead(t, file("root", abcName)), "", api.ErrDown)
	wantRoot(t, dead(t), "", api.ErrDown)
	wantRoot(t, dead(t, file("root", "x")), "", api.ErrDown)
	for _, data := range noNames() {
		wantRoot(t, full(t, 0, file("root", data)), "", api.ErrCorrupt)
	}
}

func TestRootIsNoAct(t *testing.T) {
	d := full(t, 0, file("root", abcName))
	d.Fuse(0)
	wantRoot(t, d, abcName, api.OK)
	wantView(t, "behind Root", d, view{files: `root="` + abcName + `"`})
}

func TestSetRootRefusesWhatIsNoName(t *testing.T) {
	for _, name := range noNames() {
		for _, d := range []*disk.Disk{disk.New(room), full(t, room, file("root", abcName)), dead(t)} {
			d.Write("loose", nil)
			ahead := look(d)
			if e := store.SetRoot(d, name); e != api.ErrArg {
				t.Errorf("SetRoot(%q): %d", name, e)
			}
			wantView(t, "behind SetRoot of "+strconv.Quote(name), d, ahead)
		}
	}
}

// What the root names need not be there: the store does not look into it.
func TestSetRootTakesAnyName(t *testing.T) {
	d := disk.New(room)
	for _, name := range []string{abcName, strings.Repeat("0", 64), strings.Repeat("f", 64), nameOf("x")} {
		if e := store.SetRoot(d, name); e != api.OK {
			t.Errorf("SetRoot(%q): %d", name, e)
		}
		wantRoot(t, d, name, api.OK)
		if got := names(d); !slices.Equal(got, []string{"root"}) {
			t.Error("files:", got)
		}
	}
}

// The fuse shows each step by itself: what is there, and what is not synced of it, ahead of the next one.
func TestSetRootsSteps(t *testing.T) {
	old, next := `root="`+abcName+`"`, `"`+nameOf("x")+`"`
	loose := `loose="1" `
	steps := []view{
		{files: loose + old, acts: 1, loose: 1, down: true},
		{files: loose + old, acts: 2, down: true},
		{files: loose + old + " root.new=" + next, acts: 3, loose: 1, down: true},
		{files: loose + old + " root.new=" + next, acts: 4, down: true},
		{files: loose + "root=" + next, acts: 5, loose: 1, down: true},
		{files: loose + "root=" + next, acts: 6},
	}
	for fuse, wanted := range steps {
		d := full(t, room, file("root", abcName))
		d.Write("loose", []byte("1"))
		d.Fuse(fuse)
		e := store.SetRoot(d, nameOf("x"))
		if (e == api.OK) != !wanted.down || e != api.OK && e != api.ErrDown {
			t.Error("fuse", fuse, "answers", e)
		}
		wantView(t, "fuse "+strconv.Itoa(fuse), d, wanted)
	}
}

func TestSetRootEndsAtTheFirstError(t *testing.T) {
	cases := map[string]struct {
		d      *disk.Disk
		acts   int
		wanted api.Errno
	}{
		"no room":                       {full(t, 63, file("root", abcName)), 1, api.ErrFull},
		"no room beside an older one":   {full(t, 62, file("root", abcName), file("root.new", "x")), 1, api.ErrFull},
		"too many files":                {full(t, room, append(crowd(api.MaxFiles-1), file("root", abcName))...), 1, api.ErrTooMany},
		"the power is gone":             {dead(t, file("root", abcName)), 0, api.ErrDown},
		"the power is gone and no root": {dead(t), 0, api.ErrDown},
	}
	for what, c := range cases {
		ahead := look(c.d)
		if e := store.SetRoot(c.d, nameOf("x")); e != c.wanted {
			t.Error(what, "answers", e)
		}
		ahead.acts += c.acts
		wantView(t, what, c.d, ahead)
	}
}

func TestSetRootFitsExactly(t *testing.T) {
	d := full(t, 64, append(crowd(api.MaxFiles-2), file("root", abcName))...)
	if e := store.SetRoot(d, nameOf("x")); e != api.OK {
		t.Error(e)
	}
	wantRoot(t, d, nameOf("x"), api.OK)
}

func TestSetRootWritesOverWhatWasBegun(t *testing.T) {
	d := full(t, room, file("root", abcName), file("root.new", strings.Repeat("y", 100)))
	if e := store.SetRoot(d, nameOf("x")); e != api.OK {
		t.Error(e)
	}
	wantView(t, "behind it", d, view{files: `root="` + nameOf("x") + `"`, acts: 5})
}

// littered is a disk with a root and files of all sorts; its own names are those of a, b and c.
func littered(t *testing.T) *disk.Disk {
	t.Helper()
	l := []api.File{file("-", "1"), file("root", abcName), file("root.new", abcName), file("roots", "2"), file("o.", "3"), file("o", "4")}
	for _, data := range []string{"a", "b", "c"} {
		l = append(l, file(fileOf(nameOf(data)), data), file(nameOf(data), data), file("o."+nameOf(data), data))
	}
	return full(t, room, l...)
}

func TestSweepLeavesTheRootAndWhatIsKept(t *testing.T) {
	a, b, c := nameOf("a"), nameOf("b"), nameOf("c")
	cases := map[string]struct{ keep, left []string }{
		"nothing":           {nil, nil},
		"one":               {[]string{b}, []string{fileOf(b)}},
		"one, thrice":       {[]string{b, b, b}, []string{fileOf(b)}},
		"all":               {[]string{c, b, a}, []string{fileOf(a), fileOf(b), fileOf(c)}},
		"none that is here": {[]string{abcName}, nil},
		"one of its file":   {[]string{a[:32] + b[32:]}, []string{fileOf(a)}},
		"no names":          {noNames(), nil},
		"files' names":      {[]string{"root.new", "-", "o.", fileOf(a), "o." + a}, nil},
		"halves of names":   {[]string{a[:32], a[:63], strings.ToUpper(b), c + "0", c[:63] + "x"}, nil},
		"one among others":  {append(noNames(), c, "-"), []string{fileOf(c)}},
	}
	for what, x := range cases {
		d := littered(t)
		many := len(d.Files())
		if e := store.Sweep(d, x.keep); e != api.OK {
			t.Error(what, "answers", e)
		}
		left := append([]string{"root"}, x.left...)
		slices.Sort(left)
		if got := names(d); !slices.Equal(got, left) {
			t.Error(what, "leaves", got, "not", left)
		}
		if acts := many - len(left) + 1; d.Acts() != acts || d.Loose() != 0 || d.Down() {
			t.Error(what, "did", look(d))
		}
	}
}

func TestSweepOfAllButNoRoot(t *testing.T) {
	d := full(t, 0, crowd(api.MaxFiles)...)
	if e := store.Sweep(d, nil); e != api.OK {
		t.Error(e)
	}
	wantView(t, "behind it", d, view{acts: api.MaxFiles + 1})
}

// There is no step then, and so none that the power could stop, nor a Sync.
func TestSweepOfNothingIsNoAct(t *testing.T) {
	for what, d := range map[string]*disk.Disk{
		"empty": disk.New(0),
		"kept":  full(t, 0, file("root", "x"), file(abcFile, "abc")),
		"dead":  dead(t, file("root", abcName), file(abcFile, "abc")),
	} {
		ahead := look(d)
		if e := store.Sweep(d, []string{abcName}); e != api.OK {
			t.Error(what, "answers", e)
		}
		wantView(t, what, d, ahead)
	}
	d := disk.New(room)
	store.Put(d, []byte("abc"))
	if e := store.Sweep(d, []string{abcName}); e != api.OK || d.Loose() != 1 {
		t.Error("what is loose was synced:", e, d.Loose())
	}
}

// The fuse shows that files go by rising names, and that the first error ends it.
func TestSweepsSteps(t *testing.T) {
	all := littered(t).Files()
	var left, gone []api.File
	for _, f := range all {
		if f.Name == "root" || f.Name == fileOf(nameOf("b")) {
			left = append(left, f)
		} else {
			gone = append(gone, f)
		}
	}
	for fuse := range len(gone) + 1 {
		d := littered(t)
		d.Fuse(fuse)
		if e := store.Sweep(d, []string{nameOf("b")}); e != api.ErrDown {
			t.Error("fuse", fuse, "answers", e)
		}
		there := append(slices.Clone(left), gone[fuse:]...)
		slices.SortFunc(there, func(x, y api.File) int { return strings.Compare(x.Name, y.Name) })
		wantView(t, "fuse "+strconv.Itoa(fuse), d, view{files: shown(there), acts: fuse, loose: fuse, down: true})
		d.Crash(nil)
		wantView(t, "crash behind fuse "+strconv.Itoa(fuse), d, view{files: shown(all), acts: fuse})
	}
}

func TestSweepIsSynced(t *testing.T) {
	d := littered(t)
	if e := store.Sweep(d, []string{nameOf("c")}); e != api.OK {
		t.Error(e)
	}
	ahead := look(d)
	d.Crash(nil)
	wantView(t, "behind a crash", d, ahead)
}

func TestSweepOnADeadDisk(t *testing.T) {
	d := dead(t, file("a", "1"), file("root", abcName))
	ahead := look(d)
	if e := store.Sweep(d, nil); e != api.ErrDown {
		t.Error(e)
	}
	wantView(t, "behind it", d, ahead)
}

func TestWhatIsPutIsGot(t *testing.T) {
	source := rand.New(rand.NewSource(3))
	d := disk.New(1 << 30)
	put := map[string]string{}
	for i := range 400 {
		b := make([]byte, i%7*i/3)
		source.Read(b)
		name, e := store.Put(d, b)
		if e != api.OK || name != sha.Name(b) {
			t.Fatal(i, name, e)
		}
		put[name] = string(b)
		if len(d.Files()) != len(put) || d.Acts() != len(put) {
			t.Fatal(i, "files", len(d.Files()), "acts", d.Acts(), "of", len(put))
		}
	}
	for name, data := range put {
		wantGet(t, d, name, data, api.OK)
		wantPut(t, d, data, name, api.OK)
	}
	if len(d.Files()) != len(put) || d.Acts() != len(put) {
		t.Error("files", len(d.Files()), "acts", d.Acts(), "of", len(put))
	}
}

// spared is b with spare room that shows whether it was written to.
func spared(b string) []byte {
	l := append([]byte(b), "spare room"...)
	return l[:len(b)]
}

func TestArgumentsStay(t *testing.T) {
	d := disk.New(room)
	b := spared("abc")
	store.Put(d, b)
	if got := string(b[:cap(b)][:13]); got != "abcspare room" {
		t.Errorf("Put has %q", got)
	}
	b[0] = 'x'
	wantGet(t, d, abcName, "abc", api.OK)

	keep := []string{nameOf("z"), abcName, "x", nameOf("a"), "spare", "room"}
	ahead := slices.Clone(keep)
	if e := store.Sweep(d, keep[:4]); e != api.OK || !reflect.DeepEqual(keep, ahead) {
		t.Error("Sweep has", keep, e)
	}
}

func TestWhatIsGotIsNew(t *testing.T) {
	d := disk.New(room)
	store.Put(d, []byte("abc"))
	one, _ := store.Get(d, abcName)
	two, _ := store.Get(d, abcName)
	for i := range one[:cap(one)] {
		one[:cap(one)][i] = '!'
	}
	if !bytes.Equal(two, []byte("abc")) {
		t.Errorf("the other is %q", two)
	}
	wantGet(t, d, abcName, "abc", api.OK)
	wantPut(t, d, "abc", abcName, api.OK)
}
