package path_test

import (
	"regexp"
	"slices"
	"strings"
	"testing"

	"counterpane/api"
	"counterpane/path"
)

// rightForm is the chapter's section 'Types' but for `.` and `..`.
var rightForm = regexp.MustCompile(`\A[a-z0-9._-]{1,16}(/[a-z0-9._-]{1,16}){0,7}\z`)

func rightByForm(p string) bool {
	up := strings.Contains("/"+p+"/", "/./") || strings.Contains("/"+p+"/", "/../")
	return rightForm.MatchString(p) && !up
}

// withinByWords is D2: p is q, or q, a slash, and anything.
func withinByWords(p, q string) bool {
	return p == q || len(p) > len(q) && p[:len(q)] == q && p[len(q)] == '/'
}

// texts are all of up to n bytes of those of the alphabet.
func texts(alphabet string, n int) []string {
	all, last := []string{""}, []string{""}
	for range n {
		var longer []string
		for _, s := range last {
			for i := range len(alphabet) {
				longer = append(longer, s+alphabet[i:i+1])
			}
		}
		all, last = append(all, longer...), longer
	}
	return all
}

// odd are short texts that a caller may hand in, however wrong.
func odd() []string {
	return []string{
		"", "/", "//", ".", "..", "a/", "/a", "a//b", "a/./b", "a/../b", "\x00", "a\x00", "a\n", "A", "a b", `a\b`, "ä", "a/ä", "\xff", "a/\xff/b", "\uFFFD", "٣", "ａ",
	}
}

// long are texts that go far beyond what is right.
func long() []string {
	return []string{strings.Repeat("/", 1<<16), strings.Repeat("a/", 1<<16), strings.Repeat("a", 1<<20), strings.Repeat("\xff", 1<<16)}
}

func rows(n int, part string) string { return strings.TrimSuffix(strings.Repeat(part+"/", n), "/") }

func TestRight(t *testing.T) {
	part := "0123456789abcdef"
	for _, x := range []struct {
		p    string
		want bool
	}{
		{"a", true}, {"z", true}, {"0", true}, {"9", true}, {"_", true}, {"-", true}, {"a.b", true},
		{"a/b/c", true}, {"src/main.go", true}, {"-/_/.a", true},
		{"", false}, {"/", false}, {"//", false}, {"/a", false}, {"a/", false}, {"a//b", false},
		{".", false}, {"..", false}, {"...", true}, {"....", true}, {".a", true}, {"..a", true}, {"a..", true}, {"a.", true},
		{"a/.", false}, {"a/..", false}, {"./a", false}, {"../a", false}, {"a/./b", false}, {"a/../b", false}, {"a/.../b", true},
		{part, true}, {part + "g", false}, {part[1:], true}, {"a/" + part, true}, {"a/" + part + "g", false}, {part + "g/a", false},
		{strings.Repeat(".", api.MaxPart), true}, {strings.Repeat(".", api.MaxPart+1), false},
		{rows(api.MaxDeep-1, "a"), true}, {rows(api.MaxDeep, "a"), true}, {rows(api.MaxDeep+1, "a"), false},
		{rows(api.MaxDeep, part), true}, {rows(api.MaxDeep, part) + "/a", false}, {rows(api.MaxDeep, part) + "/", false},
		{rows(api.MaxDeep-1, "a") + "/..", false}, {rows(api.MaxDeep-1, "a") + "/A", false}, {rows(20, "a"), false},
		{"A", false}, {"a/B", false}, {"aZb", false}, {"a b", false}, {" a", false}, {"a\n", false}, {"a\x00", false}, {`a\b`, false}, {"a:b", false}, {"a*", false}, {"a~", false},
		{"ä", false}, {"a/é", false}, {"\xff", false}, {"a\x80", false}, {"\uFFFD", false}, {"٣", false}, {"ａ", false}, {"ſ", false},
	} {
		if path.Right(x.p) != x.want {
			t.Errorf("Right(%q) is not %v", x.p, x.want)
		}
	}
}

// TestEveryByte has each byte alone, and at each place of a part, and of a path.
func TestEveryByte(t *testing.T) {
	for c := range 256 {
		s := string([]byte{byte(c)})
		for _, p := range []string{s, s + "a", "a" + s, "a" + s + "b", s + s, "a/" + s, s + "/a", "a/b" + s + "/c", strings.Repeat("a", 15) + s, s + strings.Repeat("a", 15)} {
			if path.Right(p) != rightByForm(p) {
				t.Errorf("Right(%q) is not %v", p, rightByForm(p))
			}
		}
	}
	for c := range rune(0x11000) {
		if p := "a" + string(c); path.Right(p) != rightByForm(p) {
			t.Errorf("Right(%q) is not %v", p, rightByForm(p))
		}
	}
}

func TestRightOfShortTexts(t *testing.T) {
	for _, p := range slices.Concat(texts("a./A", 7), odd(), long()) {
		if path.Right(p) != rightByForm(p) {
			t.Fatalf("Right(%.20q) is not %v", p, rightByForm(p))
		}
	}
}

// TestEveryDepthAndLength has, at each depth, each part in turn of each length.
func TestEveryDepthAndLength(t *testing.T) {
	for deep := 1; deep <= api.MaxDeep+2; deep++ {
		for at := range deep {
			for size := range api.MaxPart + 3 {
				parts := strings.Split(rows(deep, "a"), "/")
				parts[at] = strings.Repeat("x", size)
				want := deep <= api.MaxDeep && 1 <= size && size <= api.MaxPart
				if p := strings.Join(parts, "/"); path.Right(p) != want {
					t.Errorf("Right(%q) is not %v", p, want)
				}
			}
		}
	}
}

func TestParent(t *testing.T) {
	for _, x := range []struct {
		p, want string
		is      bool
	}{
		{"a/b", "a", true}, {"a/b/c", "a/b", true}, {"a", "", false}, {"abc", "", false}, {"", "", false}, {"..", "", false},
		{"/", "", true}, {"/a", "", true}, {"a/", "a", true}, {"//", "/", true}, {"a//b", "a/", true}, {"a/b/", "a/b", true},
		{"A B/\xff", "A B", true}, {"\xff/ä", "\xff", true}, {`a\b`, "", false}, {rows(20, "a"), rows(19, "a"), true},
	} {
		if got, is := path.Parent(x.p); got != x.want || is != x.is {
			t.Errorf("Parent(%q) is %q, %v", x.p, got, is)
		}
	}
	for _, p := range slices.Concat(texts("ab/", 7), odd(), long()) {
		parts := strings.Split(p, "/")
		want := strings.Join(parts[:len(parts)-1], "/")
		if got, is := path.Parent(p); got != want || is != (len(parts) > 1) {
			t.Fatalf("Parent(%.20q) is %.20q, %v", p, got, is)
		}
	}
}

func TestWithinAndApart(t *testing.T) {
	for _, x := range []struct {
		p, q          string
		within, apart bool
	}{
		{"a", "a", true, false}, {"a/b", "a", true, false}, {"a/b/c", "a", true, false}, {"a/b/c", "a/b", true, false},
		{"a", "a/b", false, false}, {"a/b", "a/b/c", false, false},
		{"ab", "a", false, true}, {"a", "ab", false, true}, {"a/bc", "a/b", false, true}, {"a/b", "a/c", false, true}, {"a.b", "a", false, true}, {"b/a", "a", false, true}, {"x/a/b", "a/b", false, true},
		{"a/", "a", true, false}, {"a//", "a", true, false}, {"a//b", "a", true, false}, {"a", "a/", false, false}, {"a/b", "a/", false, true}, {"a//b", "a/", true, false},
		{"", "", true, false}, {"/", "", true, false}, {"/a", "", true, false}, {"a", "", false, true}, {"", "a", false, true}, {"", "/", false, false}, {"//", "/", true, false}, {"/a", "/", false, true},
		{"A/b", "a", false, true}, {"\xff/a", "\xff", true, false}, {"a/../b", "a", true, false}, {"b", "a/../b", false, true},
	} {
		if path.Within(x.p, x.q) != x.within {
			t.Errorf("Within(%q, %q) is not %v", x.p, x.q, x.within)
		}
		if path.Apart(x.p, x.q) != x.apart {
			t.Errorf("Apart(%q, %q) is not %v", x.p, x.q, x.apart)
		}
	}
}

func TestWithinAndApartOfShortTexts(t *testing.T) {
	all := slices.Concat(texts("ab/", 5), odd(), long())
	for _, p := range all {
		for _, q := range all {
			within, back := withinByWords(p, q), withinByWords(q, p)
			if path.Within(p, q) != within {
				t.Fatalf("Within(%.20q, %.20q) is not %v", p, q, within)
			}
			if want := !within && !back; path.Apart(p, q) != want {
				t.Fatalf("Apart(%.20q, %.20q) is not %v", p, q, want)
			}
		}
	}
}

func TestMoved(t *testing.T) {
	for _, x := range []struct {
		p, from, to, want string
		is                bool
	}{
		{"a/b/c", "a/b", "x", "x/c", true}, {"a/b", "a", "x/y", "x/y/b", true}, {"a", "a", "x", "x", true}, {"a/b", "a/b", "x", "x", true},
		{"a/b", "a", "a", "a/b", true}, {"a/a/a", "a", "b", "b/a/a", true}, {"a/b", "a", "a/b", "a/b/b", true}, {"a/b/c", "a/b", "a", "a/c", true},
		{"ab", "a", "x", "", false}, {"a", "a/b", "x", "", false}, {"b", "a", "x", "", false}, {"x", "a", "x", "", false}, {"x/a", "a", "x", "", false}, {"a/bc", "a/b", "x", "", false},
		{"", "", "", "", true}, {"", "", "x", "x", true}, {"a", "a", "", "", true}, {"a/b", "a", "", "/b", true}, {"/b", "", "a", "a/b", true}, {"b", "", "a", "", false}, {"", "a", "x", "", false},
		{"a/", "a", "x", "x/", true}, {"a//b", "a/", "x", "x/b", true}, {"a/b", "a", "x/", "x//b", true}, {"a/b", "a", "..", "../b", true}, {"\xff/A", "\xff", "ä", "ä/A", true},
		{"a/" + rows(7, "b"), "a", rows(8, "c"), rows(8, "c") + "/" + rows(7, "b"), true},
	} {
		if got, is := path.Moved(x.p, x.from, x.to); got != x.want || is != x.is {
			t.Errorf("Moved(%q, %q, %q) is %q, %v", x.p, x.from, x.to, got, is)
		}
	}
}

func TestMovedOfShortTexts(t *testing.T) {
	all := slices.Concat(texts("ab/", 4), odd(), long())
	for _, p := range all {
		for _, from := range all {
			for _, to := range []string{"", "a", "b/a", "/", "\xff"} {
				got, is := path.Moved(p, from, to)
				want := ""
				if withinByWords(p, from) {
					want = to + p[len(from):]
				}
				if got != want || is != withinByWords(p, from) {
					t.Fatalf("Moved(%.20q, %.20q, %.20q) is %.20q, %v", p, from, to, got, is)
				}
			}
		}
	}
}

// TestWithinGoesOn is the first half of P4.2.
func TestWithinGoesOn(t *testing.T) {
	all := append(texts("ab/", 4), "a/b/a/b", "a/b/a", "aa/bb", "aa/bb/aa", "aa/bbb")
	seen := 0
	for _, p := range all {
		for _, q := range all {
			if !path.Within(p, q) {
				continue
			}
			for _, r := range all {
				if !path.Within(q, r) {
					continue
				}
				if seen++; !path.Within(p, r) {
					t.Fatalf("%q is within %q, that within %q, but not %q there", p, q, r, p)
				}
			}
		}
	}
	if seen < 400 {
		t.Fatalf("only %d were within", seen)
	}
}

// TestParentsOfRightOnes is the other half of P4.2, up to where there is no parent.
func TestParentsOfRightOnes(t *testing.T) {
	for _, p := range append(texts("a./", 7), rows(8, "0123456789abcdef"), "src/a-b/_c.go", "..../.a/...") {
		for deep := strings.Count(p, "/"); path.Right(p) && deep >= 0; deep-- {
			q, is := path.Parent(p)
			if is != (deep > 0) {
				t.Fatalf("Parent(%q) is %q, %v", p, q, is)
			}
			if !is {
				break
			}
			if !path.Right(q) || !path.Within(p, q) || path.Within(q, p) {
				t.Fatalf("%q does not lie in its parent %q", p, q)
			}
			p = q
		}
	}
}

// TestMovedAndBack is P4.3: all that is within from, moved, is within to, and comes back.
func TestMovedAndBack(t *testing.T) {
	all, seen := append(texts("ab/", 4), odd()...), 0
	for _, p := range all {
		for _, from := range all {
			for _, to := range all {
				there, is := path.Moved(p, from, to)
				if is != path.Within(p, from) {
					t.Fatalf("Moved(%q, %q, %q) says %v", p, from, to, is)
				}
				if !is {
					continue
				}
				if back, is := path.Moved(there, to, from); back != p || !is || !path.Within(there, to) {
					t.Fatalf("%q moved from %q to %q is %q, and back %q", p, from, to, there, back)
				}
				seen++
			}
		}
	}
	if seen < 5000 {
		t.Fatalf("only %d were moved", seen)
	}
}

// TestWhatIsWithinGoesWithIt is the other half of P4.3.
func TestWhatIsWithinGoesWithIt(t *testing.T) {
	all, seen := texts("ab/", 4), 0
	for _, from := range all {
		for _, q := range all {
			for _, p := range all {
				if !path.Within(q, from) || !path.Within(p, q) {
					continue
				}
				for _, to := range []string{"", "b", "x/y", "a/b", "/"} {
					inner, _ := path.Moved(p, from, to)
					outer, _ := path.Moved(q, from, to)
					if with, is := path.Moved(p, q, outer); !path.Within(inner, outer) || with != inner || !is {
						t.Fatalf("from %q to %q: %q goes to %q, and %q within it to %q", from, to, q, outer, p, inner)
					}
					seen++
				}
			}
		}
	}
	if seen < 2000 {
		t.Fatalf("only %d went with it", seen)
	}
}
