package repo_test

import (
	"fmt"
	"slices"
	"testing"

	"counterpane/api"
	"counterpane/disk"
	"counterpane/repo"
)

// command is one of a repository: what it answers.
type command func(r *repo.Repo) (string, api.Errno)

func recorded(now []api.Entry) command {
	return func(r *repo.Repo) (string, api.Errno) { return r.Record(now) }
}

func amended(name string, now []api.Entry) command {
	return func(r *repo.Repo) (string, api.Errno) { return r.Amend(name, now) }
}

func tagged(r *repo.Repo) (string, api.Errno) { return r.Tag() }

func unrecorded(names ...string) command {
	return func(r *repo.Repo) (string, api.Errno) { return "", r.Unrecord(names) }
}

func applied(l ...api.Patch) command {
	return func(r *repo.Repo) (string, api.Errno) { return "", r.Apply(l) }
}

// scene is what was done ahead of a command, on a disk of that room; litter is what else lies there, of 30 bytes each, and is not synced.
type scene struct {
	room   int
	ahead  []command
	litter []string
	do     command
	want   api.Errno // what it answers, while there is power
}

func scenes() []scene {
	first, more := recorded(lined("1")), recorded(lined("1 2"))
	others := applied(patch("y.1", change(api.AddDir, "y")), tag("y.2 y.1"), patch("z", change(api.AddDir, "y")))
	many := []command{first, more, others, tagged}
	return []scene{
		{1000, nil, nil, first, api.OK},
		{1000, nil, words("a", "z"), first, api.OK},
		{1000, []command{first}, nil, more, api.OK},
		{1000, []command{first}, words("o.1", "root.new"), more, api.OK},
		{9000, many, nil, recorded(things(text("t", "1 2 3"), dir("y"))), api.OK},
		{1000, nil, nil, tagged, api.OK},
		{9000, many, words("a"), tagged, api.OK},
		{1000, []command{first}, nil, amended("x.1", lined("2")), api.OK},
		{9000, many[:3], words("z"), amended("x.2", things(text("t", "3"))), api.OK},
		{1000, []command{first}, nil, unrecorded("x.1"), api.OK},
		{1000, []command{first}, nil, unrecorded(), api.OK},
		{9000, many, nil, unrecorded("x.2", "z"), api.OK},
		{9000, many, words("a"), unrecorded("y.1"), api.OK},
		{1000, nil, nil, others, api.OK},
		{9000, []command{first, more, unrecorded("x.2"), others}, nil, applied(patch("x.2 x.1", hunk(1, "", "q"))), api.OK},
		{9000, many, nil, applied(), api.OK},
		{9000, many, nil, applied(tag("y.2 y.1")), api.OK},
		// No room for the patch, the inventory, or the root.
		{300, []command{first}, nil, recorded(lined(fmt.Sprint(1<<62, 1<<61, 1<<60, 1<<59, 1<<58))), api.ErrFull},
		{300, []command{first}, words("root.new"), more, api.ErrFull},
		{370, []command{first}, nil, more, api.ErrFull},
		{370, []command{first}, nil, others, api.ErrFull},
		{420, []command{first}, words("a", "b"), others, api.ErrFull},
		{370, []command{first}, words("a", "b"), tagged, api.ErrFull},
		{300, []command{first}, nil, amended("x.1", lined("3")), api.ErrFull},
		{260, []command{first}, words("a"), unrecorded("x.1"), api.ErrFull},
	}
}

// lay is a disk of the scene, and its repository, ahead of the command.
func (s scene) lay(t *testing.T) (*disk.Disk, *repo.Repo) {
	t.Helper()
	d := disk.New(s.room)
	r, e := repo.Init(d, "x")
	if e != api.OK {
		t.Fatalf("Init is %d", e)
	}
	for i, do := range s.ahead {
		if _, e := do(r); e != api.OK {
			t.Fatalf("command %d ahead is %d", i, e)
		}
	}
	for _, name := range s.litter {
		d.Write(name, make([]byte, 30))
	}
	return d, r
}

// kept are the places whose bits are set.
func kept(bits, many int) []bool {
	l := make([]bool, many)
	for i := range l {
		l[i] = bits>>i&1 == 1
	}
	return l
}

// both is what there is ahead of the command, and what there would be behind it.
func (s scene) both(t *testing.T) (string, string) {
	t.Helper()
	_, r := s.lay(t)
	was := shown(r)
	if _, e := s.do(r); e != s.want {
		t.Fatalf("it answers %d; want %d", e, s.want)
	}
	would := shown(r)
	if s.want != api.OK && would != was {
		t.Fatalf("%s became %s", was, would)
	}
	return was, would
}

// shown is all that can be asked of a repository.
func shown(r *repo.Repo) string {
	return fmt.Sprintf("%s %d %+v %+v", r.Id(), r.Count(), r.Patches(), r.State())
}

// TestStays asks P18.3: it has the power go ahead of every act of every scene's command, and behind the last one, and keeps every choice of what is loose then.
func TestStays(t *testing.T) {
	seen := map[string]int{}
	for i, s := range scenes() {
		was, would := s.both(t)
		for fuse, ended := 0, false; !ended; fuse++ {
			d, r := s.lay(t)
			d.Fuse(fuse)
			_, e := s.do(r)
			ended = !d.Down()
			if got := shown(r); e == api.OK && got != would || e != api.OK && got != was || e != s.want && e != api.ErrDown {
				t.Fatalf("scene %d, fuse %d answers %d, and is %s", i, fuse, e, got)
			}
			many := d.Loose()
			for bits := range 1 << many {
				d, r := s.lay(t)
				d.Fuse(fuse)
				s.do(r)
				d.Crash(kept(bits, many))
				what := fmt.Sprintf("scene %d, fuse %d, kept %b of %d, answer %d", i, fuse, bits, many, e)
				seen[stayed(t, what, d, e, was, would)]++
			}
		}
	}
	for _, what := range words("what was", "what would be", "what would be, unanswered") {
		if seen[what] < 10 {
			t.Errorf("%s is seen %d times", what, seen[what])
		}
	}
}

// stayed opens a disk behind a crash, and tells which of both it has.
func stayed(t *testing.T, what string, d *disk.Disk, answer api.Errno, was, would string) string {
	t.Helper()
	r, e := repo.Open(d)
	if e != api.OK {
		t.Fatalf("%s: Open is %d", what, e)
	}
	got := shown(r)
	if got != would && (got != was || answer == api.OK) {
		t.Fatalf("%s: it is %s; was %s; would be %s", what, got, was, would)
	}
	if n := len(d.Files()); n != len(r.Patches())+2 || d.Loose() != 0 {
		t.Fatalf("%s: there are %d files, %d loose", what, n, d.Loose())
	}
	// All goes on from there.
	if name, e := r.Tag(); e == api.OK && name != fmt.Sprintf("x.%d", r.Count()) {
		t.Fatalf("%s: Tag is %q", what, name)
	}
	switch {
	case got == was:
		return "what was"
	case answer == api.OK:
		return "what would be"
	}
	return "what would be, unanswered"
}

// TestInitStays: the power goes ahead of every act of Init, and every choice is kept: then there is a repository, or none.
func TestInitStays(t *testing.T) {
	lay := func() *disk.Disk {
		return disk.Of(1000, []api.File{{Name: "a"}, {Name: "o.1"}, {Name: "root.new", Data: []byte("1")}})
	}
	seen := map[api.Errno]int{}
	for fuse := range 12 {
		d := lay()
		d.Fuse(fuse)
		_, answer := repo.Init(d, "x")
		many := d.Loose()
		for bits := range 1 << many {
			d := lay()
			d.Fuse(fuse)
			repo.Init(d, "x")
			d.Crash(kept(bits, many))
			r, e := repo.Open(d)
			seen[e]++
			if answer == api.OK && e != api.OK || e != api.OK && e != api.ErrNone || answer != api.OK && answer != api.ErrDown {
				t.Fatalf("fuse %d, kept %b: Init answers %d, Open %d", fuse, bits, answer, e)
			}
			want := api.ErrThere
			if e == api.ErrNone {
				r, want = nil, api.OK
			} else if shown(r) != "x 0 [] {Tree:[] Done:[] Left:[] Forms:[]}" {
				t.Fatalf("fuse %d, kept %b: it is %s", fuse, bits, shown(r))
			}
			if _, e := repo.Init(d, "y"); e != want {
				t.Fatalf("fuse %d, kept %b: Init once more answers %d; want %d", fuse, bits, e, want)
			}
		}
	}
	if seen[api.OK] < 5 || seen[api.ErrNone] < 5 {
		t.Errorf("only these: %v", seen)
	}
}

// TestOpenStays: the power goes while what is not kept is swept away, in every scene whose power went, and once more.
func TestOpenStays(t *testing.T) {
	for i, s := range scenes() {
		was, would := s.both(t)
		for fuse := range 16 {
			for second := range 7 {
				d, r := s.lay(t)
				d.Fuse(fuse)
				_, answer := s.do(r)
				d.Crash(slices.Repeat([]bool{true}, d.Loose()))
				d.Fuse(second)
				o, e := repo.Open(d)
				if e != api.OK && (e != api.ErrDown || o != nil) {
					t.Fatalf("scene %d, fuses %d, %d: Open is %d", i, fuse, second, e)
				}
				d.Crash(kept(second, d.Loose()))
				stayed(t, fmt.Sprintf("scene %d, fuses %d, %d, answer %d", i, fuse, second, answer), d, answer, was, would)
			}
		}
	}
}
