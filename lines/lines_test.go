package lines_test

import (
	"regexp"
	"slices"
	"strings"
	"testing"

	"counterpane/lines"
)

// tokenForm and pieceForm are the chapter's section 'Types'.
var (
	tokenForm = regexp.MustCompile(`\A[a-zA-Z0-9_]+\z`)
	pieceForm = regexp.MustCompile(`[a-zA-Z0-9_]+|[^a-zA-Z0-9_]+`)
)

// splitByWords is E1: what stands ahead of each byte 10, byte by byte.
func splitByWords(s string) ([]string, bool) {
	var l []string
	begin := 0
	for i := range len(s) {
		if s[i] == 10 {
			l, begin = append(l, s[begin:i]), i+1
		}
	}
	if begin != len(s) {
		return nil, false
	}
	return l, true
}

func joinByWords(l []string) string {
	text := ""
	for _, line := range l {
		text += line + "\x0a"
	}
	return text
}

func rightByWords(l []string) bool { return strings.IndexByte(strings.Join(l, ""), 10) < 0 }

// replaceByWords is E2, of the pieces that the form finds.
func replaceByWords(line, from, to string) string {
	if !tokenForm.MatchString(from) {
		return line
	}
	l := pieceForm.FindAllString(line, -1)
	for i, piece := range l {
		if piece == from {
			l[i] = to
		}
	}
	return strings.Join(l, "")
}

// texts are all of up to n bytes of those of the alphabet.
func texts(alphabet string, n int) []string {
	all, last := []string{""}, []string{""}
	for range n {
		var longer []string
		for _, s := range last {
			for i := range len(alphabet) {
				longer = append(longer, s+alphabet[i:i+1])
			}
		}
		all, last = append(all, longer...), longer
	}
	return all
}

// rows are all lists of up to n of those texts.
func rows(of []string, n int) [][]string {
	all, last := [][]string{nil, {}}, [][]string{nil}
	for range n {
		var longer [][]string
		for _, l := range last {
			for _, s := range of {
				longer = append(longer, append(slices.Clone(l), s))
			}
		}
		all, last = append(all, longer...), longer
	}
	return all
}

// odd are short texts that a caller may hand in, however wrong.
func odd() []string {
	return []string{
		"\x00", "\xff", "a\xffb", "\xffa\xff", "\xc3", "\xa4a", "ä", "aäb", "é1", "٣", "a٣", "ａ", "\u212a", "ſ", "a\u0301", "\uFFFD", "a\uFFFDa", "\u2028", "a\u0085b\n",
		"\r", "\r\n", "a\r\nb\r\n", "a\rb", "\n\r", "a\v\f\n", "a\tb", "\n\n\n", "\na", "x1+=y", "if (a_1 == b) {", "--a--", "a.b.c", "__", "A-Z", "`{@[^/:",
	}
}

// long are texts of many bytes.
func long() []string {
	return []string{strings.Repeat("\n", 1<<16), strings.Repeat("a\n", 1<<16), strings.Repeat("a", 1<<20), strings.Repeat("\xff", 1<<16), strings.Repeat("a+", 1<<16), strings.Repeat("a", 1<<20) + "\n"}
}

func TestSplit(t *testing.T) {
	for _, x := range []struct {
		s    string
		want []string
		is   bool
	}{
		{"", nil, true}, {"\n", []string{""}, true}, {"\n\n", []string{"", ""}, true}, {"a\n", []string{"a"}, true}, {"a\nb\n", []string{"a", "b"}, true},
		{"\na\n", []string{"", "a"}, true}, {"a\n\n", []string{"a", ""}, true}, {"a\n\nb\n", []string{"a", "", "b"}, true}, {" a \n", []string{" a "}, true},
		{"a", nil, false}, {"a\nb", nil, false}, {"\na", nil, false}, {"a\n\nb", nil, false}, {"a\n ", nil, false}, {"a\n\r", nil, false}, {"a\n\x00", nil, false}, {"\r", nil, false}, {"\\n", nil, false},
		{"a\r\n", []string{"a\r"}, true}, {"\r\n\r\n", []string{"\r", "\r"}, true}, {"a\rb\n", []string{"a\rb"}, true}, {"\u2028\n", []string{"\u2028"}, true}, {"\xff\n\x00\n", []string{"\xff", "\x00"}, true}, {"ä", nil, false},
	} {
		if l, is := lines.Split(x.s); !slices.Equal(l, x.want) || is != x.is {
			t.Errorf("Split(%q) is %q, %v", x.s, l, is)
		}
	}
}

func TestJoin(t *testing.T) {
	for _, x := range []struct {
		l    []string
		want string
	}{
		{nil, ""}, {[]string{}, ""}, {[]string{""}, "\n"}, {[]string{"", ""}, "\n\n"}, {[]string{"a"}, "a\n"}, {[]string{"a", "b"}, "a\nb\n"}, {[]string{"a", "", "b"}, "a\n\nb\n"},
		{[]string{"\xff", "\x00", "ä\r"}, "\xff\n\x00\nä\r\n"}, {[]string{"a\n"}, "a\n\n"}, {[]string{"a\nb", "\n"}, "a\nb\n\n\n"},
	} {
		if got := lines.Join(x.l); got != x.want {
			t.Errorf("Join(%q) is %q", x.l, got)
		}
	}
}

func TestRight(t *testing.T) {
	for _, x := range []struct {
		l    []string
		want bool
	}{
		{nil, true}, {[]string{}, true}, {[]string{""}, true}, {[]string{"", "a"}, true}, {[]string{"a b", "\r", "\x00", "\xff", "ä", "\u2028\u0085\v\f"}, true}, {[]string{`a\n`}, true},
		{[]string{"\n"}, false}, {[]string{"a\n"}, false}, {[]string{"\na"}, false}, {[]string{"a\nb"}, false}, {[]string{"a\r\n"}, false}, {[]string{"\xff\n"}, false},
		{[]string{"a", "b\n"}, false}, {[]string{"a\n", "b"}, false}, {[]string{"a", "\n", "b"}, false}, {[]string{"\n", "\n"}, false},
	} {
		if lines.Right(x.l) != x.want {
			t.Errorf("Right(%q) is not %v", x.l, x.want)
		}
	}
}

func TestToken(t *testing.T) {
	for _, x := range []struct {
		s    string
		want bool
	}{
		{"a", true}, {"z", true}, {"A", true}, {"Z", true}, {"0", true}, {"9", true}, {"_", true}, {"__", true}, {"a_Z9", true}, {"0x1F", true}, {strings.Repeat("a", 1<<20), true},
		{"", false}, {" ", false}, {"a b", false}, {" a", false}, {"a ", false}, {"+=", false}, {"a+", false}, {"+a", false}, {"a-b", false}, {"a.b", false}, {"a\n", false}, {"\na", false}, {"a\x00", false},
		{"`", false}, {"{", false}, {"@", false}, {"[", false}, {"/", false}, {":", false}, {"^", false},
		{"ä", false}, {"aä", false}, {"\xff", false}, {"a\xff", false}, {"٣", false}, {"ａ", false}, {"ſ", false}, {"\uFFFD", false}, {strings.Repeat("a", 1<<20) + "+", false},
	} {
		if lines.Token(x.s) != x.want {
			t.Errorf("Token(%.20q) is not %v", x.s, x.want)
		}
	}
}

func TestTokens(t *testing.T) {
	for _, x := range []struct {
		line string
		want []string
	}{
		{"", nil}, {"a", []string{"a"}}, {"+", []string{"+"}}, {"x1+=y", []string{"x1", "+=", "y"}}, {" x1+=Y_z ", []string{" ", "x1", "+=", "Y_z", " "}},
		{"abc", []string{"abc"}}, {"+ -", []string{"+ -"}}, {"a b", []string{"a", " ", "b"}}, {"a  b", []string{"a", "  ", "b"}}, {"a-b-", []string{"a", "-", "b", "-"}}, {"-a", []string{"-", "a"}},
		{"_0Aa", []string{"_0Aa"}}, {"`a{", []string{"`", "a", "{"}}, {"@A[", []string{"@", "A", "["}}, {"/0:", []string{"/", "0", ":"}}, {"^_`", []string{"^", "_", "`"}},
		{"aäb", []string{"a", "ä", "b"}}, {"ä", []string{"ä"}}, {"a\xffb", []string{"a", "\xff", "b"}}, {"\xff\xfe", []string{"\xff\xfe"}}, {"a\u0301", []string{"a", "\u0301"}}, {"a\nb\n", []string{"a", "\n", "b", "\n"}}, {"\x00a\x00", []string{"\x00", "a", "\x00"}},
	} {
		if l := lines.Tokens(x.line); !slices.Equal(l, x.want) {
			t.Errorf("Tokens(%q) is %q", x.line, l)
		}
	}
}

func TestReplace(t *testing.T) {
	for _, x := range []struct{ line, from, to, want string }{
		{"a ab a", "a", "b", "b ab b"}, {"a", "a", "b", "b"}, {"aa", "a", "b", "aa"}, {"a.a", "a", "b", "b.b"}, {"ba ab", "a", "c", "ba ab"}, {"a_ _a A", "a", "c", "a_ _a A"}, {"x1+=y", "x1", "longer", "longer+=y"},
		{"a", "b", "c", "a"}, {"a+b", "a", "a", "a+b"}, {"a b", "a", "b", "b b"}, {"", "a", "b", ""}, {"+", "a", "b", "+"},
		{"a.a", "a", "", "."}, {"a", "a", "", ""}, {"a+b", "a", "+", "++b"}, {"a a", "a", "a a", "a a a a"}, {"a b", "a", "b a", "b a b"}, {"a.b", "a", "\n\xff", "\n\xff.b"},
		{"a+b", "+", "-", "a+b"}, {"+", "+", "a", "+"}, {"a b", " ", "c", "a b"}, {"a", "", "b", "a"}, {"", "", "b", ""}, {"a+b", "a+", "c", "a+b"}, {"a+b", "a+b", "c", "a+b"}, {"ä", "ä", "a", "ä"}, {"aä", "aä", "b", "aä"}, {"\xff", "\xff", "a", "\xff"},
		{"aäa", "a", "b", "bäb"}, {"a\xffa", "a", "b", "b\xffb"}, {"a\nb\na\n", "a", "c", "c\nb\nc\n"}, {"\x00a", "a", "", "\x00"},
	} {
		if got := lines.Replace(x.line, x.from, x.to); got != x.want {
			t.Errorf("Replace(%q, %q, %q) is %q", x.line, x.from, x.to, got)
		}
	}
}

// TestEveryByte has each byte alone, and beside bytes of tokens and others.
func TestEveryByte(t *testing.T) {
	for c := range 256 {
		s := string([]byte{byte(c)})
		for _, text := range []string{s, s + s, s + "a", "a" + s, "a" + s + "b", "+" + s, s + "+", "+" + s + "+", "a+" + s, s + "\n", "\n" + s, "a\n" + s + "\n"} {
			atWords(t, text)
			for _, to := range []string{"", "Q", "+"} {
				if got := lines.Replace(text, s, to); got != replaceByWords(text, s, to) {
					t.Errorf("Replace(%q, %q, %q) is %q", text, s, to, got)
				}
			}
		}
	}
	for c := range rune(0x11000) {
		atWords(t, "a"+string(c))
	}
}

func TestShortAndOddTexts(t *testing.T) {
	for _, s := range slices.Concat(texts("a_+\n", 7), texts("aZ0 \xff\xc3", 5), odd(), long()) {
		atWords(t, s)
	}
}

// atWords holds all calls of one text against the chapter's words.
func atWords(t *testing.T, s string) {
	t.Helper()
	l, is := lines.Split(s)
	want, right := splitByWords(s)
	if !slices.Equal(l, want) || is != right {
		t.Fatalf("Split(%.20q) is %.20q, %v", s, l, is)
	}
	if lines.Right([]string{s}) != rightByWords([]string{s}) {
		t.Fatalf("Right of %.20q is not %v", s, rightByWords([]string{s}))
	}
	if lines.Token(s) != tokenForm.MatchString(s) {
		t.Fatalf("Token(%.20q) is not %v", s, tokenForm.MatchString(s))
	}
	if l := lines.Tokens(s); !slices.Equal(l, pieceForm.FindAllString(s, -1)) {
		t.Fatalf("Tokens(%.20q) is %.20q", s, l)
	}
}

func TestReplaceOfShortTexts(t *testing.T) {
	from := append(texts("a_+", 2), "\xff", "ä", "aä", "\n")
	for _, line := range slices.Concat(texts("a_+", 6), odd()) {
		for _, f := range from {
			for _, to := range []string{"", "b", "a", "a+a", "+", "\n"} {
				if got := lines.Replace(line, f, to); got != replaceByWords(line, f, to) {
					t.Fatalf("Replace(%q, %q, %q) is %q", line, f, to, got)
				}
			}
		}
	}
	for _, line := range long() {
		for _, f := range []string{"a", "+", line} {
			if got := lines.Replace(line, f, "bc"); got != replaceByWords(line, f, "bc") {
				t.Fatalf("Replace(%.20q, %.20q, bc) is %.20q", line, f, got)
			}
		}
	}
}

// TestJoinOfSplit is P5.2 from texts to lines.
func TestJoinOfSplit(t *testing.T) {
	seen := 0
	for _, s := range slices.Concat(texts("a\r\n", 8), texts("\n\x00\xff", 6), odd(), long()) {
		l, is := lines.Split(s)
		if !is {
			continue
		}
		if seen++; lines.Join(l) != s || !lines.Right(l) {
			t.Fatalf("Split(%.20q) is %.20q, and joined %.20q", s, l, lines.Join(l))
		}
	}
	if seen < 3000 {
		t.Fatalf("only %d were texts of lines", seen)
	}
}

// TestSplitOfJoin is P5.2 from lines to texts; lines that are not right come back as others.
func TestSplitOfJoin(t *testing.T) {
	for _, l := range rows([]string{"", "a", "b c", "\r", "\xff", "\n", "a\n", "\nb"}, 4) {
		s := lines.Join(l)
		if s != joinByWords(l) {
			t.Fatalf("Join(%q) is %q", l, s)
		}
		if lines.Right(l) != rightByWords(l) {
			t.Fatalf("Right(%q) is not %v", l, rightByWords(l))
		}
		back, is := lines.Split(s)
		if !is || slices.Equal(back, l) != lines.Right(l) {
			t.Fatalf("Join(%q) is %q, and split %q, %v", l, s, back, is)
		}
	}
	many := make([]string, 1<<17)
	if back, is := lines.Split(lines.Join(many)); !is || !slices.Equal(back, many) {
		t.Fatal("many empty lines do not come back")
	}
}

// TestPiecesTogether is the first half of P5.3.
func TestPiecesTogether(t *testing.T) {
	for _, line := range slices.Concat(texts("aB_+ ", 6), odd(), long()) {
		l := lines.Tokens(line)
		if strings.Join(l, "") != line {
			t.Fatalf("pieces %.20q are not %.20q", l, line)
		}
		for i, piece := range l {
			if piece == "" || i > 0 && lines.Token(piece) == lines.Token(l[i-1]) {
				t.Fatalf("pieces %.20q of %.20q do not take turns", l, line)
			}
		}
	}
}

// TestReplacedAndBack is the other half of P5.3, of tokens that the line has, or has not, and of what is none.
func TestReplacedAndBack(t *testing.T) {
	changed := 0
	names := []string{"a", "b", "aa", "ab", "_", "c", "a_", "longer", "Z9"}
	for _, line := range slices.Concat(texts("ab_+", 6), odd()) {
		has := lines.Tokens(line)
		for _, from := range append(names, "", "+", "a+", "ä", "\xff") {
			for _, to := range names {
				if slices.Contains(has, to) {
					continue
				}
				there := lines.Replace(line, from, to)
				if back := lines.Replace(there, to, from); back != line {
					t.Fatalf("%q with %q for %q is %q, and back %q", line, to, from, there, back)
				}
				if there != line {
					changed++
				}
			}
		}
	}
	if changed < 10000 {
		t.Fatalf("only %d were changed", changed)
	}
}

// TestListsHandedIn: they, and their spare room, stay as they were.
func TestListsHandedIn(t *testing.T) {
	for _, room := range [][]string{{"a", "b", "spare", "room"}, {"a\n", "b", "spare\n", ""}} {
		was := slices.Clone(room)
		lines.Join(room[:2])
		lines.Right(room[:2])
		if !slices.Equal(room, was) {
			t.Fatalf("%q became %q", was, room)
		}
	}
	if room := []string{"a", "b\n"}; !lines.Right(room[:1]) || lines.Join(room[:1]) != "a\n" {
		t.Fatal("spare room counts")
	}
}

// TestListsAreNew: what is done to an answer, and its spare room, is not to be seen in another one.
func TestListsAreNew(t *testing.T) {
	split := func() []string { l, _ := lines.Split("a\nb\nc\n"); return l }
	tokens := func() []string { return lines.Tokens("a b") }
	for _, call := range []func() []string{split, tokens} {
		first, second := call(), call()
		was := slices.Clone(second)
		spare := second[:cap(second)]
		for i := range first[:cap(first)] {
			first[:cap(first)][i] = "x"
		}
		if !slices.Equal(second, was) || slices.Contains(spare, "x") || !slices.Equal(call(), was) {
			t.Fatalf("%q became %q", was, second)
		}
	}
}
