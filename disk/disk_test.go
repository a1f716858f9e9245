package disk_test

import (
	"bytes"
	"math"
	"reflect"
	"strconv"
	"strings"
	"testing"

	"counterpane/api"
	"counterpane/disk"
)

// view is all that a disk tells of itself but what is synced, which only a crash shows.
type view struct {
	files string
	used  int
	acts  int
	loose int
	down  bool
}

func look(d *disk.Disk) view {
	return view{shown(d.Files()), d.Used(), d.Acts(), d.Loose(), d.Down()}
}

// shown is files as one text, in the order in which they come.
func shown(l []api.File) string {
	var out []string
	for _, f := range l {
		out = append(out, f.Name+"="+strconv.Quote(string(f.Data)))
	}
	return strings.Join(out, " ")
}

func want(t *testing.T, what string, got, wanted api.Errno) {
	t.Helper()
	if got != wanted {
		t.Errorf("%s: got %d, want %d", what, got, wanted)
	}
}

func wantView(t *testing.T, what string, d *disk.Disk, wanted view) {
	t.Helper()
	if got := look(d); got != wanted {
		t.Errorf("%s: got %+v, want %+v", what, got, wanted)
	}
}

// wantRead holds Read to the zero result beside an error, too.
func wantRead(t *testing.T, d *disk.Disk, name, data string, wanted api.Errno) {
	t.Helper()
	b, e := d.Read(name)
	if string(b) != data || e != wanted {
		t.Errorf("Read(%q): got %q, %d; want %q, %d", name, b, e, data, wanted)
	}
}

// filled is a disk of many files without bytes, all synced.
func filled(t *testing.T, room, many int) *disk.Disk {
	t.Helper()
	d := disk.Of(room, files(many))
	if d == nil {
		t.Fatal("no disk of", many, "files")
	}
	return d
}

func files(many int) []api.File {
	var l []api.File
	for i := range many {
		l = append(l, api.File{Name: "f" + strconv.Itoa(i)})
	}
	return l
}

func TestNewIsEmpty(t *testing.T) {
	for _, room := range []int{math.MinInt, -1, 0, 1, math.MaxInt} {
		wantView(t, "room "+strconv.Itoa(room), disk.New(room), view{})
	}
}

func TestRoomBelowNothingIsNothing(t *testing.T) {
	for _, room := range []int{math.MinInt, -1, 0} {
		for _, d := range []*disk.Disk{disk.New(room), disk.Of(room, nil)} {
			want(t, "a byte", d.Write("a", []byte("1")), api.ErrFull)
			want(t, "no byte", d.Write("a", nil), api.OK)
		}
	}
}

func TestOfHasItsFilesSynced(t *testing.T) {
	d := disk.Of(100, []api.File{{Name: "b", Data: []byte("22")}, {Name: "a"}, {Name: "-.0", Data: []byte("\x00")}})
	all := view{files: `-.0="\x00" a="" b="22"`, used: 3}
	wantView(t, "at first", d, all)
	d.Crash(nil)
	wantView(t, "behind a crash", d, all)
}

func TestOfRefuses(t *testing.T) {
	big := make([]byte, api.MaxFile+1)
	for what, l := range map[string][]api.File{
		"too many":         files(api.MaxFiles + 1),
		"no name":          {{Name: "a"}, {Name: ""}},
		"a long name":      {{Name: strings.Repeat("a", api.MaxName+1)}},
		"a wrong byte":     {{Name: "a/b"}},
		"twice":            {{Name: "a", Data: []byte("1")}, {Name: "b"}, {Name: "a", Data: []byte("1")}},
		"twice, and empty": {{Name: "a"}, {Name: "a"}},
		"too long":         {{Name: "a", Data: big}},
	} {
		if disk.Of(math.MaxInt, l) != nil {
			t.Error(what)
		}
	}
}

func TestOfTakesItsBounds(t *testing.T) {
	if d := disk.Of(0, files(api.MaxFiles)); d == nil || len(d.Files()) != api.MaxFiles {
		t.Error("MaxFiles")
	}
	if d := disk.Of(0, []api.File{{Name: strings.Repeat("z", api.MaxName), Data: make([]byte, api.MaxFile)}}); d == nil || d.Used() != api.MaxFile {
		t.Error("MaxName, MaxFile")
	}
}

func TestOfMayHaveMoreThanItsRoom(t *testing.T) {
	d := disk.Of(3, []api.File{{Name: "a", Data: []byte("1234")}, {Name: "b", Data: []byte("12")}})
	wantView(t, "at first", d, view{files: `a="1234" b="12"`, used: 6})
	want(t, "beside a", d.Write("b", nil), api.ErrFull)
	want(t, "for a, too long", d.Write("a", []byte("12")), api.ErrFull)
	want(t, "for a", d.Write("a", []byte("1")), api.OK)
}

func TestFilesRise(t *testing.T) {
	d := disk.New(100)
	for _, name := range []string{"b", "a.b", "0", "a", "ab", "-", "a-", "."} {
		want(t, name, d.Write(name, nil), api.OK)
	}
	if got := shown(d.Files()); got != `-="" .="" 0="" a="" a-="" a.b="" ab="" b=""` {
		t.Error(got)
	}
}

func TestNames(t *testing.T) {
	for c := range 256 {
		fits := strings.IndexByte("abcdefghijklmnopqrstuvwxyz0123456789.-", byte(c)) >= 0
		name := string([]byte{byte(c)})
		for _, s := range []string{name, "a" + name, name + "a"} {
			checkName(t, s, fits)
		}
	}
	checkName(t, "", false)
	checkName(t, strings.Repeat("a", api.MaxName), true)
	checkName(t, strings.Repeat("a", api.MaxName+1), false)
	checkName(t, "\u00e4", false)
	checkName(t, "a\u2028", false)
}

// checkName asks of a name all the calls that must know whether it is one.
func checkName(t *testing.T, name string, fits bool) {
	t.Helper()
	wanted := api.ErrArg
	if fits {
		wanted = api.OK
	}
	d := disk.New(10)
	want(t, "Write "+strconv.Quote(name), d.Write(name, nil), wanted)
	d = disk.Of(10, []api.File{{Name: "x"}})
	want(t, "Rename to "+strconv.Quote(name), d.Rename("x", name), wanted)
	if got := disk.Of(10, []api.File{{Name: name}}) != nil; got != fits {
		t.Errorf("Of %q: %v", name, got)
	}
	if !fits {
		d = disk.Of(10, []api.File{{Name: "x"}})
		wantRead(t, d, name, "", api.ErrNone)
		want(t, "Remove "+strconv.Quote(name), d.Remove(name), api.ErrNone)
		want(t, "Rename from "+strconv.Quote(name), d.Rename(name, "y"), api.ErrNone)
	}
}

func TestRead(t *testing.T) {
	d := disk.New(10)
	wantRead(t, d, "a", "", api.ErrNone)
	want(t, "write", d.Write("a", []byte("1\x002")), api.OK)
	wantRead(t, d, "a", "1\x002", api.OK)
	want(t, "write nothing", d.Write("a", nil), api.OK)
	wantRead(t, d, "a", "", api.OK)
	if d.Acts() != 2 {
		t.Error("a read is no act:", d.Acts())
	}
}

func TestReadIsNoActOfTheFuse(t *testing.T) {
	d := disk.Of(10, []api.File{{Name: "a", Data: []byte("1")}})
	d.Fuse(0)
	wantRead(t, d, "a", "1", api.OK)
	wantRead(t, d, "b", "", api.ErrNone)
	if d.Down() {
		t.Error("a read has the power go")
	}
	want(t, "sync", d.Sync(), api.ErrDown)
	wantRead(t, d, "a", "", api.ErrDown)
	wantRead(t, d, "b", "", api.ErrDown)
	wantRead(t, d, "A", "", api.ErrDown)
}

func TestWriteBounds(t *testing.T) {
	d := disk.New(math.MaxInt)
	want(t, "MaxFile", d.Write("a", make([]byte, api.MaxFile)), api.OK)
	want(t, "one more", d.Write("a", make([]byte, api.MaxFile+1)), api.ErrTooMany)
	want(t, "one more, elsewhere", d.Write("b", make([]byte, api.MaxFile+1)), api.ErrTooMany)

	d = filled(t, 10, api.MaxFiles-1)
	want(t, "file MaxFiles", d.Write("x", nil), api.OK)
	want(t, "one more file", d.Write("y", nil), api.ErrTooMany)
	want(t, "one that is there", d.Write("x", []byte("1")), api.OK)
	want(t, "rename", d.Rename("x", "y"), api.OK)
	want(t, "what was renamed", d.Write("x", nil), api.ErrTooMany)
	want(t, "remove", d.Remove("y"), api.OK)
	want(t, "where one was removed", d.Write("x", nil), api.OK)
}

func TestWriteFull(t *testing.T) {
	d := disk.New(5)
	want(t, "all", d.Write("a", []byte("12345")), api.OK)
	want(t, "no byte", d.Write("b", nil), api.OK)
	want(t, "a byte more", d.Write("b", []byte("1")), api.ErrFull)
	want(t, "another one's room is its own", d.Write("a", []byte("54321")), api.OK)
	want(t, "longer than the room", d.Write("a", []byte("123456")), api.ErrFull)
	want(t, "less", d.Write("a", []byte("12")), api.OK)
	want(t, "what that left", d.Write("b", []byte("345")), api.OK)
	want(t, "over another one", d.Rename("a", "b"), api.OK)
	want(t, "what a rename left", d.Write("c", []byte("123")), api.OK)
	wantView(t, "behind", d, view{files: `b="12" c="123"`, used: 5, acts: 7, loose: 7})
}

func TestFirstErrorOfWrite(t *testing.T) {
	big := make([]byte, api.MaxFile+1)
	want(t, "no name, too long, full", disk.New(0).Write("A", big), api.ErrArg)
	want(t, "too long, full", disk.New(0).Write("a", big), api.ErrTooMany)
	d := filled(t, 0, api.MaxFiles)
	want(t, "no name, too many, full", d.Write("", []byte("1")), api.ErrArg)
	want(t, "too many, full", d.Write("a", []byte("1")), api.ErrTooMany)
	want(t, "full", d.Write("f0", []byte("1")), api.ErrFull)
	want(t, "no name to rename to, none to rename", d.Rename("a", "A"), api.ErrArg)
}

func TestRename(t *testing.T) {
	d := disk.Of(10, []api.File{{Name: "a", Data: []byte("1")}, {Name: "b", Data: []byte("22")}})
	want(t, "to its own name", d.Rename("a", "a"), api.OK)
	wantView(t, "nothing but a change", d, view{files: `a="1" b="22"`, used: 3, acts: 1, loose: 1})
	want(t, "none, to its own name", d.Rename("c", "c"), api.ErrNone)
	want(t, "over another one", d.Rename("a", "b"), api.OK)
	wantView(t, "the other one's", d, view{files: `b="1"`, used: 1, acts: 2, loose: 2})
	want(t, "what is gone", d.Rename("a", "c"), api.ErrNone)
	want(t, "to a new name", d.Rename("b", "c"), api.OK)
	wantView(t, "the new name's", d, view{files: `c="1"`, used: 1, acts: 3, loose: 3})
}

func TestRemove(t *testing.T) {
	d := disk.Of(10, []api.File{{Name: "a", Data: []byte("1")}, {Name: "b"}})
	want(t, "there", d.Remove("a"), api.OK)
	want(t, "gone", d.Remove("a"), api.ErrNone)
	want(t, "empty", d.Remove("b"), api.OK)
	wantView(t, "nothing", d, view{acts: 2, loose: 2})
}

func TestSync(t *testing.T) {
	d := disk.New(10)
	want(t, "of nothing", d.Sync(), api.OK)
	wantView(t, "an act, and no change", d, view{acts: 1})
	d.Write("a", []byte("1"))
	d.Write("b", nil)
	d.Rename("a", "c")
	d.Remove("b")
	wantView(t, "ahead", d, view{files: `c="1"`, used: 1, acts: 5, loose: 4})
	want(t, "of changes", d.Sync(), api.OK)
	wantView(t, "behind", d, view{files: `c="1"`, used: 1, acts: 6})
	d.Crash([]bool{true, true, true, true})
	wantView(t, "what was synced is no change any more", d, view{files: `c="1"`, used: 1, acts: 6})
}

// acts are all four, with what each answers of a disk that has a file a, and room.
func acts() map[string]func(d *disk.Disk) api.Errno {
	return map[string]func(d *disk.Disk) api.Errno{
		"Write":  func(d *disk.Disk) api.Errno { return d.Write("b", nil) },
		"Rename": func(d *disk.Disk) api.Errno { return d.Rename("a", "b") },
		"Remove": func(d *disk.Disk) api.Errno { return d.Remove("a") },
		"Sync":   func(d *disk.Disk) api.Errno { return d.Sync() },
	}
}

func TestFuseStopsEachAct(t *testing.T) {
	for what, act := range acts() {
		d := disk.Of(10, []api.File{{Name: "a", Data: []byte("1")}})
		d.Write("c", []byte("2"))
		d.Fuse(0)
		if d.Down() {
			t.Error(what, "down ahead of the act")
		}
		want(t, what, act(d), api.ErrDown)
		down := view{files: `a="1" c="2"`, used: 2, acts: 1, loose: 1, down: true}
		wantView(t, what, d, down)
		want(t, what+" once more", act(d), api.ErrDown)
		d.Fuse(-1)
		want(t, what+" without a fuse", act(d), api.ErrDown)
		d.Fuse(5)
		want(t, what+" with another fuse", act(d), api.ErrDown)
		wantView(t, what, d, down)
		d.Crash(nil)
		wantView(t, what+" behind a crash", d, view{files: `a="1"`, used: 1, acts: 1})
		for range 7 {
			want(t, what+": there is no fuse any more", d.Sync(), api.OK)
		}
	}
}

func TestEachActBurnsTheFuse(t *testing.T) {
	for what, act := range acts() {
		d := disk.Of(10, []api.File{{Name: "a"}})
		d.Fuse(2)
		want(t, what, act(d), api.OK)
		want(t, what+", a sync", d.Sync(), api.OK)
		want(t, what+", one too many", d.Sync(), api.ErrDown)
		if d.Acts() != 2 {
			t.Error(what, d.Acts())
		}
	}
}

func TestFuseGoesAheadOfOtherErrors(t *testing.T) {
	for what, act := range refused() {
		d := crowded(t)
		d.Fuse(0)
		want(t, what, act.do(d), api.ErrDown)
		if !d.Down() {
			t.Error(what, "has not burnt out")
		}
		want(t, what+", the power gone", act.do(d), api.ErrDown)
	}
}

func TestFuseIsSetAnewAndTakenOut(t *testing.T) {
	d := disk.New(10)
	for _, none := range []int{-1, math.MinInt} {
		d.Fuse(1)
		d.Fuse(none)
		want(t, "none", d.Sync(), api.OK)
		want(t, "none", d.Sync(), api.OK)
	}
	d.Fuse(math.MaxInt)
	want(t, "a long one", d.Sync(), api.OK)
	d.Fuse(0)
	d.Fuse(1)
	want(t, "another one", d.Sync(), api.OK)
	want(t, "burnt down", d.Sync(), api.ErrDown)
}

func TestCrashTakesTheFuseOut(t *testing.T) {
	d := disk.New(10)
	d.Write("a", nil)
	d.Fuse(0)
	d.Crash([]bool{true})
	want(t, "sync", d.Sync(), api.OK)
	wantView(t, "with the power on", d, view{files: `a=""`, acts: 2})
}

type refusedAct struct {
	do   func(d *disk.Disk) api.Errno
	want api.Errno
}

// refused are acts that a crowded disk refuses, of each kind and for each reason.
func refused() map[string]refusedAct {
	long := make([]byte, api.MaxFile+1)
	return map[string]refusedAct{
		"write, no name":      {func(d *disk.Disk) api.Errno { return d.Write("F0", nil) }, api.ErrArg},
		"write, too long":     {func(d *disk.Disk) api.Errno { return d.Write("f0", long) }, api.ErrTooMany},
		"write, too many":     {func(d *disk.Disk) api.Errno { return d.Write("x", nil) }, api.ErrTooMany},
		"write, full":         {func(d *disk.Disk) api.Errno { return d.Write("f0", []byte("1234")) }, api.ErrFull},
		"rename, no name":     {func(d *disk.Disk) api.Errno { return d.Rename("f0", "") }, api.ErrArg},
		"rename, none":        {func(d *disk.Disk) api.Errno { return d.Rename("x", "f0") }, api.ErrNone},
		"rename, to its name": {func(d *disk.Disk) api.Errno { return d.Rename("x", "x") }, api.ErrNone},
		"remove, none":        {func(d *disk.Disk) api.Errno { return d.Remove("x") }, api.ErrNone},
	}
}

// crowded is a disk with MaxFiles, three bytes of room all in all, and two changes.
func crowded(t *testing.T) *disk.Disk {
	t.Helper()
	d := filled(t, 3, api.MaxFiles)
	want(t, "crowded", d.Write("f0", []byte("12")), api.OK)
	want(t, "crowded", d.Rename("f1", "f1"), api.OK)
	return d
}

// P1.4: neither what is seen, nor what is synced, nor the fuse is changed by what is refused.
func TestRefusedChangesNothing(t *testing.T) {
	for what, act := range refused() {
		for _, keep := range [][]bool{nil, {true}, {true, true, true}} {
			d, twin := crowded(t), crowded(t)
			d.Fuse(1)
			want(t, what, act.do(d), act.want)
			want(t, what+", twice", act.do(d), act.want)
			wantView(t, what, d, look(twin))
			want(t, what+": the fuse is as it was", d.Remove("f2"), api.OK)
			want(t, what+": the fuse is as it was", d.Remove("f3"), api.ErrDown)
			twin.Remove("f2")
			d.Crash(keep)
			twin.Crash(keep)
			wantView(t, what+", behind a crash", d, look(twin))
		}
	}
}

func TestWhatIsHandedInIsNotKept(t *testing.T) {
	b := []byte("12345")
	l := []api.File{{Name: "a", Data: b[:2]}}
	d := disk.Of(10, l)
	d.Write("b", b[:3])
	keep := []bool{true, false}
	for i := range b {
		b[i] = 'x'
	}
	l[0] = api.File{Name: "z", Data: nil}
	if got := shown(d.Files()); got != `a="12" b="123"` {
		t.Error(got)
	}
	d.Crash(keep[:1])
	if got := shown(d.Files()); got != `a="12" b="123"` {
		t.Error("behind a crash:", got)
	}
	if string(b) != "xxxxx" || !reflect.DeepEqual(keep, []bool{true, false}) || l[0].Name != "z" {
		t.Error("what was handed in is changed")
	}
}

func TestWhatComesOutIsNew(t *testing.T) {
	d := disk.Of(10, []api.File{{Name: "a", Data: []byte("12")}})
	d.Write("b", []byte("34"))
	for range 2 {
		for _, name := range []string{"a", "b"} {
			b, _ := d.Read(name)
			spoil(b)
		}
		l := d.Files()
		for i := range l {
			spoil(l[i].Data)
			l[i].Name = "z"
		}
		if got := shown(d.Files()); got != `a="12" b="34"` {
			t.Error(got)
		}
		d.Crash([]bool{true})
	}
}

// spoil writes to all of b, and its spare room.
func spoil(b []byte) {
	b = b[:cap(b)]
	copy(b, bytes.Repeat([]byte("x"), len(b)))
}

func TestDisksStandAlone(t *testing.T) {
	l := []api.File{{Name: "a", Data: []byte("1")}}
	d, other := disk.Of(10, l), disk.Of(10, l)
	d.Write("a", []byte("2"))
	d.Write("b", nil)
	d.Fuse(0)
	d.Sync()
	wantView(t, "the other one", other, view{files: `a="1"`, used: 1})
}
