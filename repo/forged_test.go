package repo_test

import (
	"fmt"
	"regexp"
	"slices"
	"strings"
	"testing"

	"counterpane/api"
	"counterpane/disk"
	"counterpane/sha"
	"counterpane/store"
)

// put keeps bytes: their name.
func put(t *testing.T, d *disk.Disk, b []byte) string {
	t.Helper()
	name, e := store.Put(d, b)
	if e != api.OK {
		t.Fatalf("Put is %d", e)
	}
	return name
}

// rooted is a disk that keeps those bytes, and an inventory's, which its root is.
func rooted(t *testing.T, inventory string, l ...[]byte) *disk.Disk {
	t.Helper()
	d := roomyDisk()
	for _, b := range l {
		put(t, d, b)
	}
	if e := store.SetRoot(d, put(t, d, []byte(inventory))); e != api.OK {
		t.Fatalf("SetRoot is %d", e)
	}
	return d
}

// laid is a disk that keeps patches.
func laid(t *testing.T, id string, count int, l []api.Patch) *disk.Disk {
	t.Helper()
	all := keptByWords(id, count, l)
	return rooted(t, string(all[len(all)-1]), all[:len(all)-1]...)
}

// opened is what Open is of a disk, which is laid twice; the words are asked of the other one.
func opened(t *testing.T, lay func() *disk.Disk) (*pair, string) {
	t.Helper()
	x := on(lay)
	return x, told("", x.open(t))
}

// TestRoots: files of which none is a root that leads to an inventory.
func TestRoots(t *testing.T) {
	kept := "1:x0:0:"
	name := sha.Name([]byte(kept))
	there := api.File{Name: "o." + name[:32], Data: []byte(kept)}
	root := func(s string) api.File { return api.File{Name: "root", Data: []byte(s)} }
	for i, c := range []struct {
		l    []api.File
		want string
	}{
		{nil, "!12"}, {[]api.File{there}, "!12"}, {[]api.File{{Name: "root.new", Data: []byte(name)}, there}, "!12"}, {[]api.File{root(name), there}, ""},
		{[]api.File{root(name)}, "!3"}, {[]api.File{root("")}, "!3"}, {[]api.File{root(name[:63]), there}, "!3"}, {[]api.File{root(name + "\n"), there}, "!3"}, {[]api.File{root(strings.ToUpper(name)), there}, "!3"},
		{[]api.File{root(name), {Name: "o." + name[:32], Data: []byte("1:x0:0")}}, "!3"}, {[]api.File{root(name), {Name: "o." + name[:32]}}, "!3"},
		{[]api.File{root(name[:32] + name[:32]), there}, "!3"}, {[]api.File{root(name), there, {Name: "a"}, {Name: "root.new"}}, ""},
	} {
		lay := func() *disk.Disk { return disk.Of(1000, c.l) }
		x, got := opened(t, lay)
		written(t, fmt.Sprint("Open ", i), got, c.want)
		if left := len(x.d.Files()); got == "" && left != 2 || got != "" && left != len(c.l) {
			t.Errorf("%d: %d files are left", i, left)
		}
		x, got = opened(t, func() *disk.Disk {
			d := lay()
			d.Fuse(0)
			d.Sync()
			return d
		})
		written(t, fmt.Sprint("Open without power ", i), got, "!13")
		if len(x.d.Files()) != len(c.l) {
			t.Errorf("%d: without power files went", i)
		}
	}
}

// TestInventories: forms of one that are none, for one reason each, and some that are.
func TestInventories(t *testing.T) {
	a, b := bytesOf(patches(tag("a")))[0], bytesOf(patches(tag("b a")))[0]
	one, two := "64:"+sha.Name(a), "64:"+sha.Name(b)
	none := "64:" + sha.Name([]byte("c"))
	for text, want := range map[string]string{
		"1:x0:0:": "", "1:x7:0:": "", "1:x1073741824:0:": "", "12:abc-09xyz-120:0:": "", "1:-0:0:": "", "1:x0:1:" + one: "", "1:x5:2:" + one + two: "",
		"": "!3", ":": "!3", "1:x": "!3", "1:x0:": "!3", "1:x0:0": "!3", "1:x0:0:0:": "!3", "1:x0:0: ": "!3", " 1:x0:0:": "!3", "x0:0:": "!3", "01:x0:0:": "!3", "+1:x0:0:": "!3", "2:x0:0:": "!3", "0:x0:0:": "!3",
		"1:x00:0:": "!3", "1:x01:0:": "!3", "1:x-1:0:": "!3", "1:x-0:0:": "!3", "1:x+1:0:": "!3", "1:x:0:": "!3", "1:xx:0:": "!3", "1:x0x1:0:": "!3", "1:x1_0:0:": "!3", "1:x1073741825:0:": "!3", "1:x2147483648:0:": "!3", "1:x4294967296:0:": "!3",
		"1:x9223372036854775807:0:": "!3", "1:x9223372036854775808:0:": "!3", "1:x18446744073709551616:0:": "!3", "1:x18446744073709551617:0:": "!3", "1:x99999999999999999999999:0:": "!3",
		"1:x0::": "!3", "1:x0:00:": "!3", "1:x0:-1:": "!3", "1:x0:1:": "!3", "1:x0:2:" + one: "!3", "1:x0:0:" + one: "!3", "1:x0:1:" + one + two: "!3", "1:x0:9223372036854775807:" + one: "!3", "1:x0:9223372036854775808:" + one: "!3", "1:x0:18446744073709551617:" + one: "!3",
		"0:0:0:": "!3", "1:X0:0:": "!3", "1:.0:0:": "!3", "3:x.10:0:": "!3", "13:abc-09xyz-1230:0:": "!3", "1: 0:0:": "!3", "2:é0:0:": "!3",
		"1:x0:1:" + none: "!3", "1:x0:2:" + one + none: "!3", "1:x0:1:" + two: "!3", "1:x0:2:" + two + one: "!3", "1:x0:2:" + one + one: "!3", "1:x0:3:" + one + one + two: "!3", "1:x0:3:" + one + two + two: "!3",
		"1:x0:1:0:": "!3", "1:x0:1:63:" + one[3:66]: "!3", "1:x0:1:65:" + one[3:] + "0": "!3", "1:x0:1:64:" + strings.ToUpper(one[3:]): "!3", "1:x0:1:64:" + one[3:66] + ":": "!3", "1:x0:1:064:" + one[3:]: "!3", "1:x0:1:" + one + ":": "!3",
		"1:x0:1:64:" + one[3:35] + two[35:]: "!3", "1:x0:1:64:" + one[3:35] + one[3:35]: "!3",
	} {
		_, got := opened(t, func() *disk.Disk { return rooted(t, text, a, b) })
		written(t, fmt.Sprintf("Open of %q", text), got, want)
	}
}

// TestPastTheEnd: numbers of texts that are a little greater than what is left behind them; with the number itself there would be enough.
func TestPastTheEnd(t *testing.T) {
	a := bytesOf(patches(tag("a")))[0]
	name := sha.Name(a)
	number := regexp.MustCompile(`[0-9]+:`)
	wrong := 0
	for _, text := range words("1:x0:0:", "3:ab", "2:a", "1:", "1:x7:0:", "1:x0:1:64:"+name, "1:a0:1:64:ab", "1:a0:2:64:"+name+"64:"+name[:9], "1:a0:1:64:") {
		for _, at := range number.FindAllStringIndex(text, -1) {
			left := len(text) - at[1]
			for n := range 12 {
				forged := fmt.Sprint(text[:at[0]], left+n, ":", text[at[1]:])
				if _, got := opened(t, func() *disk.Disk { return rooted(t, forged, a) }); got != "" {
					wrong++
				}
			}
		}
	}
	if wrong < 200 {
		t.Errorf("only %d were wrong", wrong)
	}
	for _, text := range words("3:ab", "2:a", "1:a0:1:64:ab") {
		_, got := opened(t, func() *disk.Disk { return rooted(t, text, a) })
		written(t, fmt.Sprintf("Open of %q", text), got, "!3")
	}
}

// TestKeptPatches: what the inventory names is no patch, or may not be there, for one reason each.
func TestKeptPatches(t *testing.T) {
	right := func(l ...api.Patch) [][]byte { return bytesOf(l) }
	for i, c := range []struct {
		count int
		l     [][]byte
		want  string
	}{
		{0, right(), ""}, {0, right(tag("a"), tag("b a"), tag("c a b")), ""}, {0, right(tag("a b"), tag("b")), ""}, {0, right(numbered(256)...), ""},
		{0, right(numbered(257)...), "!3"}, {0, right(tag("a b")), "!3"}, {0, right(tag("a b"), tag("b a")), "!3"}, {0, right(tag("a b"), tag("b c"), tag("c a")), "!3"},
		{0, slices.Concat(right(tag("b")), right(tag("a"))), "!3"}, {0, slices.Concat(right(tag("a")), right(tag("c")), right(tag("b"))), "!3"}, {0, slices.Concat(right(tag("a")), right(tag("a"))), "!3"}, {0, slices.Concat(right(tag("b")), right(tag("a"), tag("b a"))), "!3"},
		{0, slices.Concat(right(tag("a")), right(patch("a", change(api.AddDir, "d")))), "!3"}, {0, slices.Concat(right(patch("a", change(api.AddDir, "d"))), right(tag("a"))), "!3"},
		{0, right(tag("x.1")), "!3"}, {1, right(tag("x.1")), ""}, {1, right(tag("x.1"), tag("x.2")), "!3"}, {9, right(tag("x.10")), "!3"}, {10, right(tag("x.10"), tag("x.2")), ""}, {9, right(tag("x.10"), tag("x.2")), "!3"},
		{0, right(tag("x.0"), tag("x.01"), tag("y.5")), ""}, {1 << 30, right(tag("x.1073741824")), ""}, {1 << 30, right(tag("x.1073741825")), "!3"}, {1 << 30, right(tag("x.9999999999999999999999")), "!3"}, {3, right(tag("x.4 x.3"), tag("x.3")), "!3"},
		{0, [][]byte{{}}, "!3"}, {0, [][]byte{[]byte("1:a0:0:x")}, "!3"}, {0, [][]byte{[]byte("1:a0:0")}, "!3"}, {0, [][]byte{[]byte("1:A0:0:")}, "!3"}, {0, [][]byte{[]byte("1:x0:0:")}, ""}, {0, [][]byte{[]byte("1:a0:1:0:1:a0:0:0:0:0:")}, "!3"},
		{0, slices.Concat(right(tag("a")), [][]byte{[]byte("?")}), "!3"}, {0, slices.Concat([][]byte{[]byte("?")}, right(tag("a"))), "!3"},
	} {
		text := string(inventoryByWords("x", c.count, sums(c.l)))
		_, got := opened(t, func() *disk.Disk { return rooted(t, text, c.l...) })
		written(t, fmt.Sprint("Open ", i), got, c.want)
		if c.want != "" || len(c.l) == 0 {
			continue
		}
		// Of what may be there, one patch's file is gone, or of other bytes.
		for at, b := range c.l[:min(3, len(c.l))] {
			file := "o." + sha.Name(b)[:32]
			_, got = opened(t, func() *disk.Disk {
				d := rooted(t, text, c.l...)
				d.Remove(file)
				return d
			})
			written(t, fmt.Sprint("Open ", i, " without file ", at), got, "!3")
			_, got = opened(t, func() *disk.Disk {
				d := rooted(t, text, c.l...)
				d.Write(file, c.l[len(c.l)-1-at][:at])
				return d
			})
			written(t, fmt.Sprint("Open ", i, " with a cut file ", at), got, "!3")
		}
	}
}

// TestShortInventories has all rows of up to five pieces be the inventory.
func TestShortInventories(t *testing.T) {
	a := bytesOf(patches(tag("a")))[0]
	pieces := words("0:", "1:", "2:", "01:", ":", "-1:", "1", "x", "1:x", "64:"+sha.Name(a), "64:", sha.Name(a))
	are := 0
	var more func(text string, left int)
	more = func(text string, left int) {
		if _, got := opened(t, func() *disk.Disk { return rooted(t, text, a) }); got == "" {
			are++
		}
		if left == 0 {
			return
		}
		for _, p := range pieces {
			more(text+p, left-1)
		}
	}
	more("", 3)
	more("1:x", 3)
	more("1:x1:", 3)
	if are < 15 {
		t.Errorf("only %d are inventories", are)
	}
}

// TestBytesOfInventories has one byte of one be another one, go, or come.
func TestBytesOfInventories(t *testing.T) {
	l := patches(tag("x.1"), patch("y x.1", change(api.AddDir, "d")))
	all := keptByWords("x", 5, l)
	text := string(all[2])
	are := 0
	ask := func(text string) {
		t.Helper()
		if _, got := opened(t, func() *disk.Disk { return rooted(t, text, all[:2]...) }); got == "" {
			are++
		}
	}
	for at := range len(text) + 1 {
		for _, c := range "0123456789:-+.x_af \x00A" {
			ask(text[:at] + string(c) + text[at:])
			if at < len(text) {
				ask(text[:at] + string(c) + text[at+1:])
			}
		}
		ask(text[:at])
		ask(text[at:])
		if at < len(text) {
			ask(text[:at] + text[at+1:])
		}
	}
	// The Count may be another one, and the id, if x.1 is not above it.
	if are < 20 {
		t.Errorf("only %d are inventories", are)
	}
}

// TestSwept: what is not kept goes when a repository is opened; where the power goes then, there is none, and all is there the next time.
func TestSwept(t *testing.T) {
	lay := func() *disk.Disk {
		d := laid(t, "x", 3, patches(tag("a"), tag("x.3 a")))
		for _, name := range words("a", "o.1", "root.new", "root.old", "z") {
			d.Write(name, []byte(name))
		}
		put(t, d, []byte("litter"))
		d.Sync()
		return d
	}
	for fuse := range 9 {
		x := on(lay)
		x.fuse(fuse)
		want := ""
		if fuse < 7 {
			want = "!13"
		}
		written(t, fmt.Sprint("Open, the power goes ahead of act ", fuse), told("", x.open(t)), want)
		x.crash([]bool{true, false, true, false, true})
		written(t, "Open", told("", x.open(t)), "")
		x.has(t, 3, "a x.3<a", "a x.3", "", nil)
		if len(x.d.Files()) != 4 {
			t.Errorf("with fuse %d there are %d files", fuse, len(x.d.Files()))
		}
	}
}
