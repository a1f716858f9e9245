package named_test

import (
	"fmt"
	"slices"
	"strings"
	"testing"

	"counterpane/api"
	"counterpane/named"
)

// plain is a change of a kind that names nothing but a path.
func plain(kind int, p string) api.Prim { return api.Prim{Kind: kind, Path: p} }

func linesOf(p string, at int, old, now []string) api.Prim {
	return api.Prim{Kind: api.Lines, Path: p, At: at, Old: old, New: now}
}

func token(p, from, to string) api.Prim {
	return api.Prim{Kind: api.Token, Path: p, From: from, To: to}
}

func bytesOf(p, from, to string) api.Prim {
	return api.Prim{Kind: api.Bytes, Path: p, From: from, To: to}
}

func moved(p, to string) api.Prim { return api.Prim{Kind: api.Move, Path: p, To: to} }

func words(l ...string) []string { return l }

// patch is one with that name, that stands on deps.
func patch(name string, deps []string, body ...api.Prim) api.Patch {
	return api.Patch{Name: name, Deps: deps, Body: body}
}

// numbered are so many labels, rising.
func numbered(n int) []string {
	var l []string
	for i := range n {
		l = append(l, fmt.Sprintf("d.%03d", i))
	}
	return l
}

// TestLabels has each byte wherever it may stand, and each length.
func TestLabels(t *testing.T) {
	const letters = "abcdefghijklmnopqrstuvwxyz0123456789.-"
	for c := range 256 {
		want := strings.IndexByte(letters, byte(c)) >= 0
		one := string([]byte{byte(c)})
		for _, s := range []string{one, one + "a", "a" + one, "a" + one + "a", one + one, strings.Repeat("a", 23) + one} {
			if named.Label(s) != want {
				t.Errorf("Label(%q) is %v", s, !want)
			}
		}
	}
	for n := range 100 {
		if s := strings.Repeat("z", n); named.Label(s) != (1 <= n && n <= 24) {
			t.Errorf("Label of %d letters is %v", n, named.Label(s))
		}
	}
	for s, want := range map[string]bool{"a.b-0": true, ".": true, "..": true, "-": true, "0": true, letters[:24]: true, letters[14:]: true, letters[13:]: false, "a/b": false, "a_b": false, "é": false, "a b": false, "a\n": false, "ａ": false} {
		if named.Label(s) != want || labelByWords(s) != want {
			t.Errorf("Label(%q) is %v", s, !want)
		}
	}
}

// rightOnes are patches at the edges of what may be.
func rightOnes() []api.Patch {
	deep := strings.Repeat("abcdefghijklmnop/", api.MaxDeep-1) + "abcdefghijklmnop"
	return []api.Patch{
		patch("a", nil),
		patch(strings.Repeat("z", 24), words(strings.Repeat("y", 24))),
		patch("d", words("a", "b", "c", "e")),
		patch("d", words("-", ".", "0", "a", "a-", "a.", "a0", "aa", "b", "d-", "dd")),
		patch("d", numbered(api.MaxDeps)),
		patch("0", nil, slices.Repeat([]api.Prim{plain(api.AddDir, "a")}, api.MaxBody)...),
		patch("0", numbered(api.MaxDeps), slices.Repeat([]api.Prim{linesOf(deep, api.MaxAt, words("", "x"), words("y"))}, api.MaxBody)...),
		patch("a", nil, plain(api.AddDir, "a"), plain(api.RmDir, "a"), plain(api.AddText, "a"), plain(api.RmText, "a"), plain(api.AddData, "a"), plain(api.RmData, "a")),
		patch("a", nil, linesOf("a", 0, words(""), nil), linesOf("a", 1, nil, words("", "")), linesOf("a", api.MaxAt, words("x"), words("x"))),
		patch("a", nil, token("a", "x", "y"), bytesOf("a", "", "x"), bytesOf("a", "x", ""), moved("a", "b"), moved(deep, "a")),
		patch("a", nil, linesOf("a", 0, words("1:", ":", "0:", "12", "1:a0:0:"), words("::", "\x00", "\xff\xfe", "é", "\r", " "))),
		patch("a", nil, bytesOf("a", "\n1:a\n", "\x00\xff:"), bytesOf("a", "", strings.Repeat(":", 1<<16))),
		patch("a", nil, linesOf("a", 0, slices.Repeat(words("", "x"), 3000), slices.Repeat(words(strings.Repeat("1:", 300)), 300))),
		{Name: "a", Deps: words(), Body: []api.Prim{{Kind: api.AddText, Path: "a", Old: words(), New: words()}}},
		{Name: "a", Body: []api.Prim{}},
	}
}

// wrongOnes are patches that may not be, each for one reason.
func wrongOnes() []api.Patch {
	l := []api.Patch{
		{},
		patch("", nil, plain(api.AddDir, "a")), patch("A", nil), patch("a/b", nil), patch("a_", nil), patch("a\n", nil), patch(strings.Repeat("a", 25), nil),
		patch("a", words("")), patch("a", words("B")), patch("a", words("", "b")), patch("a", words("b", "c_")), patch("a", words("b", "c/", "d")), patch("a", words(strings.Repeat("b", 25))),
		patch("a", words("a")), patch("b", words("a", "b")), patch("b", words("b", "c")), patch("b", words("a", "b", "c")),
		patch("a", words("c", "b")), patch("a", words("b", "b")), patch("a", words("b", "d", "c")), patch("a", words("b", "c", "c")), patch("a", words("c", "d", "b")), patch("a", words("0", "-")), patch("x", words("aa", "a")),
		patch("a", numbered(api.MaxDeps+1)),
		patch("a", nil, slices.Repeat([]api.Prim{plain(api.AddDir, "a")}, api.MaxBody+1)...),
		patch("d.007", numbered(100)),
	}
	some := plain(api.AddDir, "a")
	for _, p := range wrongPrims() {
		l = append(l, patch("a", nil, p), patch("a", nil, p, some), patch("a", nil, some, some, p), patch("a", nil, append(slices.Repeat([]api.Prim{some}, api.MaxBody-1), p)...))
	}
	return l
}

// wrongPrims are changes that may not be, each for one reason; all of them have bytes.
func wrongPrims() []api.Prim {
	return []api.Prim{
		{}, plain(0, "a"), plain(11, "a"), plain(api.Lines, "a"), plain(1<<62, "a"), plain(api.AddDir, ""), plain(api.AddDir, "a/"), plain(api.RmText, "A"), plain(api.RmDir, ".."),
		linesOf("a", api.MaxAt+1, nil, words("x")), linesOf("a", 0, words("x\n"), nil), linesOf("a", 0, nil, words("\n")), linesOf("", 0, nil, words("x")),
		token("a", "x", "x"), token("a", "", "x"), token("a", "x", "+"), bytesOf("a", "x", "x"), bytesOf("a", "", ""),
		moved("a", "a"), moved("a", "a/b"), moved("a/b", "a"), moved("a", ""), moved("a", "b/"),
		{Kind: api.AddDir, Path: "a", To: "b"}, {Kind: api.AddText, Path: "a", From: "b"}, {Kind: api.RmData, Path: "a", At: 1}, {Kind: api.AddData, Path: "a", Old: words("")}, {Kind: api.RmDir, Path: "a", New: words("x")},
		{Kind: api.Lines, Path: "a", To: "b", Old: words("x")}, {Kind: api.Token, Path: "a", From: "x", To: "y", At: 2}, {Kind: api.Move, Path: "a", To: "b", From: "c"}, {Kind: api.Bytes, Path: "a", To: "b", New: words("")},
	}
}

func TestRightAndWrong(t *testing.T) {
	for _, p := range rightOnes() {
		if !named.Right(p) || put(t, p) == nil {
			t.Errorf("%s is not right", show(p))
		}
	}
	for _, p := range wrongOnes() {
		if named.Right(p) {
			t.Errorf("%s is right", show(p))
		}
		put(t, p)
		// These bytes have the form, but are no right patch's.
		if q, e := named.Get(putByWords(p)); e != api.ErrCorrupt || !alike(q, api.Patch{}) {
			t.Errorf("Get of the bytes of %s is %s, %d", show(p), show(q), e)
		}
	}
	// What is below 0 has no bytes at all.
	for _, x := range []api.Prim{plain(-1, "a"), plain(-1<<63, "a"), linesOf("a", -1, nil, words("x")), linesOf("a", -1<<63, nil, words("x"))} {
		put(t, patch("a", nil, x))
	}
}

// TestBytesByHand has patches and their bytes, written out.
func TestBytesByHand(t *testing.T) {
	for s, p := range map[string]api.Patch{
		"3:abc0:0:":                                 patch("abc", nil), // the chapter's example begins so
		"1:a1:1:b0:":                                patch("a", words("b")),
		"3:r.12:1:a1:q1:7:1:t0:0:12:2:2:x:0:0:":     patch("r.1", words("a", "q"), linesOf("t", 12, words("x:", ""), nil)),
		"1:-0:1:1:3:a/b0:0:0:0:0:":                  patch("-", nil, plain(api.AddDir, "a/b")),
		"1:a0:2:4:1:b0:0:0:0:0:6:1:c0:0:0:0:0:":     patch("a", nil, plain(api.RmText, "b"), plain(api.RmData, "c")),
		"1:a0:1:8:1:p1:y1:x0:0:0:":                  patch("a", nil, token("p", "x", "y")),
		"1:a0:1:9:1:p2:\n\xff0:0:0:0:":              patch("a", nil, bytesOf("p", "", "\n\xff")),
		"1:a0:1:10:1:p1:q0:0:0:0:":                  patch("a", nil, moved("p", "q")),
		"1:a0:1:7:1:p0:0:1073741824:0:1:0:":         patch("a", nil, linesOf("p", 1<<30, nil, words(""))),
		"1:a0:1:7:1:p0:0:0:1:1:x2:1:y10:zzzzzzzzzz": patch("a", nil, linesOf("p", 0, words("x"), words("y", "zzzzzzzzzz"))),
	} {
		if b := put(t, p); string(b) != s {
			t.Errorf("Put(%s) is %q; want %q", show(p), b, s)
		}
		if e := get(t, []byte(s)); e != api.OK {
			t.Errorf("Get(%q) is %d", s, e)
		}
	}
}

// corrupt asks that bytes are no patch's.
func corrupt(t *testing.T, b []byte) {
	t.Helper()
	if p, e := named.Get(b); e != api.ErrCorrupt || p.Name != "" || len(p.Deps) != 0 || len(p.Body) != 0 {
		t.Errorf("Get(%.300q) is %s, %d; want ErrCorrupt alone", b, show(p), e)
	}
}

// TestNumbers has forms of numbers that are none, wherever a number stands.
func TestNumbers(t *testing.T) {
	// A patch's bytes with each number in braces.
	const whole = "{1}a{1}{1}b{1}{7}{1}p{0}{0}{1}{1}{1}x{2}{1}y{0}"
	plainly := strings.NewReplacer("{", "", "}", ":")
	if e := get(t, []byte(plainly.Replace(whole))); e != api.OK {
		t.Fatalf("it is %d", e)
	}
	wrong := func(n string) []string {
		return []string{
			"", n, "0" + n + ":", "00" + n + ":", "+" + n + ":", "-" + n + ":", " " + n + ":", n + " :", n + "::", ":" + n + ":", n + ";", n + ".0:", n + "e0:", "0x" + n + ":", "_" + n + ":", n + "_:", ":", "a:", "/:", ";:", "٣:", "\xff:", "-:", "+:", " :",
			"4294967296:", "4294967297:", "9223372036854775807:", "9223372036854775808:", "9223372036854775809:", "18446744073709551615:", "18446744073709551616:", "18446744073709551617:", "18446744073709551623:", "36893488147419103239:",
			strings.Repeat("9", 1000) + ":", strings.Repeat("0", 1000) + n + ":", "1" + strings.Repeat("0", 1000) + ":",
		}
	}
	for at := range len(whole) {
		if whole[at] != '{' {
			continue
		}
		n := whole[at+1 : at+2]
		for _, form := range wrong(n) {
			corrupt(t, []byte(plainly.Replace(whole[:at])+form+plainly.Replace(whole[at+3:])))
			corrupt(t, []byte(plainly.Replace(whole[:at])+form))
		}
	}
}

// TestTooMuch: numbers that are far greater than what is behind them are gone after no further than that.
func TestTooMuch(t *testing.T) {
	const most = "9223372036854775807:"
	for _, s := range []string{most, most + "a", "1:a" + most, "1:a" + most + "1:b", "1:a0:" + most, "1:a0:" + most + "1:1:b0:0:0:0:0:", "1:a0:1:" + most + "1:b0:0:0:0:0:", "1:a0:1:7:1:b0:0:0:" + most, "1:a0:1:7:1:b0:0:0:" + most + "1:x", "1:a0:1:7:1:b0:0:0:0:" + most, "1:a0:1:9:1:b" + most} {
		corrupt(t, []byte(s))
	}
	corrupt(t, []byte(strings.Repeat("9", 1<<22)))
	corrupt(t, []byte(strings.Repeat("0", 1<<22)))
	corrupt(t, []byte("1:a1000000:"+strings.Repeat("0:", 1000000)+"0:"))
	corrupt(t, []byte("1:a0:100000:"+strings.Repeat("1:1:b0:0:0:0:0:", 100000)))
	corrupt(t, []byte("1:a257:"+strings.Repeat("1:b", 257)+"0:"))
	many := patch("a", nil, linesOf("b", 0, nil, slices.Repeat(words(""), 200000)))
	if b, e := named.Put(many); e != api.OK {
		t.Errorf("Put is %d", e)
	} else if p, e := named.Get(b); e != api.OK || !alike(p, many) {
		t.Errorf("Get is %d", e)
	}
}
