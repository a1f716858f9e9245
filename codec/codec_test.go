package codec_test

import (
	"fmt"
	"slices"
	"strings"
	"testing"

	"counterpane/api"
)

func words(l ...string) []string { return l }

// patch is one with that name, that stands on deps.
func patch(name string, deps ...string) api.Patch { return api.Patch{Name: name, Deps: deps} }

func patches(l ...api.Patch) []api.Patch { return l }

func changes(n int) []api.Prim { return slices.Repeat([]api.Prim{{Kind: api.AddDir, Path: "a"}}, n) }

// numbered are so many labels, rising.
func numbered(n int) []string {
	var l []string
	for i := range n {
		l = append(l, fmt.Sprintf("d.%03d", i))
	}
	return l
}

// row are so many patches, by rising names.
func row(n int) []api.Patch {
	var l []api.Patch
	for _, name := range numbered(n) {
		l = append(l, patch(name))
	}
	return l
}

func backward[T any](l []T) []T {
	l = slices.Clone(l)
	slices.Reverse(l)
	return l
}

func ask(names, have []string) api.Msg { return api.Msg{Kind: api.MsgAsk, Names: names, Have: have} }

func give(l ...api.Patch) api.Msg { return api.Msg{Kind: api.MsgGive, Patches: l} }

func no(e api.Errno) api.Msg { return api.Msg{Kind: api.MsgNo, Err: e} }

// heavy is a patch whose bytes are so many.
func heavy(name string, n int) api.Patch {
	p := api.Patch{Name: name, Body: []api.Prim{{Kind: api.Bytes, Path: "x", To: "y"}}}
	for len(patchByWords(p)) != n {
		p.Body[0].To = strings.Repeat("y", len(p.Body[0].To)+max(1, n-len(patchByWords(p))-9))
	}
	return p
}

// TestBundlesByHand has sets and their bundles, written out.
func TestBundlesByHand(t *testing.T) {
	for want, l := range map[string][]api.Patch{
		"0:":                                       nil, // the chapter's example
		"1:7:1:a0:0:":                              patches(patch("a")),
		"1:10:1:a1:1:b0:":                          patches(patch("a", "b")),
		"2:10:1:a1:1:b0:7:1:b0:0:":                 patches(patch("b"), patch("a", "b")),
		"2:10:1:a1:1:b0:10:1:b1:1:a0:":             patches(patch("b", "a"), patch("a", "b")),
		"3:7:1:-0:0:7:1:a0:0:8:2:a00:0:":           patches(patch("a"), patch("a0"), patch("-")),
		"1:31:24:abcdefghijklmnopqrstuvwx0:0:":     patches(patch("abcdefghijklmnopqrstuvwx")),
		"1:34:3:r.12:1:a1:q1:7:1:t0:0:12:1:1:x0:":  patches(api.Patch{Name: "r.1", Deps: words("a", "q"), Body: []api.Prim{{Kind: api.Lines, Path: "t", At: 12, Old: words("x")}}}),
		"1:28:1:a0:1:9:1:p6:\n\xff\x00:1:0:0:0:0:": patches(api.Patch{Name: "a", Body: []api.Prim{{Kind: api.Bytes, Path: "p", To: "\n\xff\x00:1:"}}}),
	} {
		for _, l := range [][]api.Patch{l, backward(l)} {
			if b, e := putBundle(t, l); string(b) != want || e != api.OK {
				t.Errorf("PutBundle of %s is %q, %d; want %q", show(l), b, e, want)
			}
		}
		if e := getBundle(t, []byte(want)); e != api.OK {
			t.Errorf("GetBundle of %q is %d", want, e)
		}
	}
}

// TestMessagesByHand has messages and their bytes, written out.
func TestMessagesByHand(t *testing.T) {
	for want, m := range map[string]api.Msg{
		"1:0:0:0:0:":                       ask(nil, nil),
		"1:1:1:a0:0:0:":                    ask(words("a"), nil),
		"1:0:1:1:a0:0:":                    ask(nil, words("a")),
		"1:2:1:a1:b1:1:c0:0:":              ask(words("a", "b"), words("c")),
		"1:1:1:a1:1:a0:0:":                 ask(words("a"), words("a")),
		"1:3:1:-1:.1:03:1:91:a2:aa0:0:":    ask(words("-", ".", "0"), words("9", "a", "aa")),
		"2:0:0:0:0:":                       give(),
		"2:0:0:0:1:7:1:a0:0:":              give(patch("a")),
		"2:0:0:0:2:10:1:a1:1:b0:7:1:b0:0:": give(patch("b"), patch("a", "b")),
		"3:0:0:1:0:":                       no(1),
		"3:0:0:12:0:":                      no(api.ErrNone),
		"3:0:0:141:0:":                     no(api.ErrLoop),
		"3:0:0:1000:0:":                    no(1000),
	} {
		if b, e := put(t, m); string(b) != want || e != api.OK {
			t.Errorf("Put of %s is %q, %d; want %q", show(m), b, e, want)
		}
		if e := get(t, []byte(want)); e != api.OK {
			t.Errorf("Get of %q is %d", want, e)
		}
	}
}

// wrongSets are patches that are no set, each for one reason.
func wrongSets() [][]api.Patch {
	many := row(api.MaxPatches + 1)
	l := [][]api.Patch{
		many, slices.Repeat(patches(patch("a")), 5000), append(many[:api.MaxPatches-1:api.MaxPatches-1], many[0]),
		{patch("a"), patch("a")}, {patch("a"), patch("b"), patch("a", "b")}, {patch("b", "a"), patch("c"), patch("b", "a")},
	}
	for _, p := range []api.Patch{
		{}, patch("A"), patch("a/b"), patch(strings.Repeat("a", 25)), {Body: changes(1)},
		patch("q", ""), patch("q", "A"), patch("q", "q"), patch("q", "b", "b"), patch("q", "c", "b"), patch("q", numbered(api.MaxDeps+1)...),
		{Name: "q", Body: changes(api.MaxBody + 1)}, {Name: "q", Body: make([]api.Prim, 1)}, {Name: "q", Body: append(changes(9), api.Prim{Kind: 11, Path: "a"})},
	} {
		l = append(l, patches(p), patches(patch("b"), patch("c"), p), append(row(api.MaxPatches-1), p))
	}
	return l
}

// TestNoSets: ErrArg alone, in a bundle and in a message; and their bytes, as they stand, are none.
func TestNoSets(t *testing.T) {
	for _, l := range wrongSets() {
		for _, l := range [][]api.Patch{l, backward(l), append(l[:len(l):len(l)], heavy("z", 1<<16))} {
			if _, e := putBundle(t, l); e != api.ErrArg {
				t.Errorf("PutBundle of %s is %d", show(l), e)
			}
			if _, e := put(t, give(l...)); e != api.ErrArg {
				t.Errorf("Put of %s is %d", show(l), e)
			}
			corruptBundle(t, []byte(bundleByWords(l)))
			corruptBundle(t, []byte(bundleByWords(byName(l))))
			corrupt(t, []byte(messageByWords(give(l...))))
			corrupt(t, []byte(messageByWords(give(byName(l)...))))
		}
	}
	// A change's numbers below 0 have no bytes at all.
	for _, x := range []api.Prim{{Kind: -1, Path: "a"}, {Kind: -1 << 63, Path: "a"}, {Kind: api.Lines, Path: "a", At: -1, New: words("x")}} {
		putBundle(t, patches(api.Patch{Name: "a", Body: []api.Prim{x}}))
		put(t, give(api.Patch{Name: "a", Body: []api.Prim{x}}))
	}
}

// TestAllShortMessages has each field right or wrong, whatever the others are.
func TestAllShortMessages(t *testing.T) {
	lists := [][]string{nil, {"a"}, {"a", "b"}, {"b", "a"}, {"a", "a"}, {""}, {"A"}, {"a", "b", "a"}, {strings.Repeat("z", 24)}, {strings.Repeat("z", 25)}}
	sets := [][]api.Patch{nil, {}, {patch("a")}, {patch("b", "a"), patch("a")}, {patch("a"), patch("a")}, {{}}, {patch("a", "a")}}
	right := map[int]int{}
	for _, kind := range []int{-1 << 63, -1, 0, 1, 2, 3, 4, 1 << 62} {
		for _, e := range []api.Errno{-1 << 63, -1, 0, 1, 1000, 1001, 1<<63 - 1} {
			for _, names := range lists {
				for _, have := range lists {
					for _, l := range sets {
						m := api.Msg{Kind: kind, Names: names, Have: have, Err: e, Patches: l}
						if _, e := put(t, m); e == api.OK {
							right[kind]++
						}
						// Of one that is not right these are the bytes of none.
						get(t, []byte(messageByWords(m)))
					}
				}
			}
		}
	}
	if len(right) != 3 || right[api.MsgAsk] != 4*4*2 || right[api.MsgGive] != 4 || right[api.MsgNo] != 2*2 {
		t.Errorf("right were %v", right)
	}
}

// TestErrors has each number a message may tell.
func TestErrors(t *testing.T) {
	for e := api.Errno(-3); e < 1100; e++ {
		_, got := put(t, no(e))
		read := get(t, []byte(fmt.Sprintf("3:0:0:%d:0:", e)))
		if is := 1 <= e && e <= 1000; is != (got == api.OK) || is != (read == api.OK) {
			t.Errorf("Put of error %d is %d, Get of it %d", e, got, read)
		}
	}
}

// TestLongest: bundles and messages as long as may be, and one byte longer.
func TestLongest(t *testing.T) {
	const most = api.MaxBundle
	for over := -2; over < 3; over++ {
		want := api.OK
		if over > 0 {
			want = api.ErrTooMany
		}
		for _, l := range [][]api.Patch{
			patches(heavy("a", most+over-len("1:32000:"))),
			patches(patch("a"), heavy("b", most+over-len("2:7:1:a0:0:32000:"))),
			append(row(api.MaxPatches-1), heavy("e", most+over-len(bundleByWords(row(api.MaxPatches-1)))-len("29000:"))),
		} {
			for _, l := range [][]api.Patch{l, backward(l)} {
				long(t, l, most+over, want)
			}
		}
		given := give(heavy("a", most+over-len("2:0:0:0:1:32000:")))
		longMessage(t, given, most+over, want)
		// Of a message's Patches the bundle alone may be short enough.
		if e := getBundle(t, []byte(bundleByWords(given.Patches))); e != api.OK {
			t.Errorf("GetBundle is %d", e)
		}
		names := padded(numbered(1000), most+over-len("1:1000:1000:0:0:")-2*1000*len("5:d.000"))
		longMessage(t, ask(names, numbered(1000)), most+over, want)
		longMessage(t, ask(numbered(1000), names), most+over, want)
	}
	for _, n := range []int{most, 1 << 16, 1 << 20} {
		long(t, patches(heavy("a", n)), n+len("1:")+len(fmt.Sprint(n))+1, api.ErrTooMany)
	}
	putBundle(t, row(api.MaxPatches))
	put(t, give(row(api.MaxPatches)...))
	put(t, ask(numbered(1000), nil))
	if _, e := put(t, ask(nil, slices.Concat(numbered(1000), words("e", "f"), words(strings.Repeat("z", 20))))); e != api.OK {
		t.Errorf("Put is %d", e)
	}
}

// padded are names whose texts are longer by n bytes in all.
func padded(names []string, n int) []string {
	for i := range names {
		more := min(n, 4)
		if n >= 24 {
			// These make 24 letters of five, and the length's second digit.
			more = 19
			n--
		}
		names[i], n = names[i]+strings.Repeat("x", more), n-more
	}
	return names
}

// long asks that a set has a bundle of that length, and what its error is.
func long(t *testing.T, l []api.Patch, n int, want api.Errno) {
	t.Helper()
	b := bundleByWords(byName(l))
	if _, e := putBundle(t, l); len(b) != n || e != want {
		t.Errorf("PutBundle of %s, whose length is %d, is %d; want %d, %d", show(l), len(b), e, n, want)
	}
	if e := getBundle(t, []byte(b)); (e == api.OK) != (want == api.OK) {
		t.Errorf("GetBundle of %.100q is %d", b, e)
	}
}

// longMessage asks likewise of a message.
func longMessage(t *testing.T, m api.Msg, n int, want api.Errno) {
	t.Helper()
	b := messageByWords(m)
	if _, e := put(t, m); len(b) != n || e != want {
		t.Errorf("Put of %s, whose length is %d, is %d; want %d, %d", show(m), len(b), e, n, want)
	}
	if e := get(t, []byte(b)); (e == api.OK) != (want == api.OK) {
		t.Errorf("Get of %.100q is %d", b, e)
	}
}

// TestWrongAndTooLong: ErrArg is ahead of ErrTooMany.
func TestWrongAndTooLong(t *testing.T) {
	big, names := heavy("b", 1<<16), numbered(1000)
	for _, l := range [][]api.Patch{{big, big}, {big, {}}, {patch("a"), big, patch("a")}, append(row(api.MaxPatches), big)} {
		if _, e := putBundle(t, l); e != api.ErrArg {
			t.Errorf("PutBundle of %s is %d", show(l), e)
		}
	}
	for range 2 {
		names = append(names, names[len(names)-1000:]...)
	}
	for i := range names {
		names[i] = fmt.Sprintf("%s.%05d", names[i], i)
	}
	slices.Sort(names)
	for _, c := range []struct {
		m    api.Msg
		want api.Errno
	}{
		{ask(names, nil), api.ErrTooMany}, {ask(nil, names), api.ErrTooMany}, {ask(names, names), api.ErrTooMany}, {give(big), api.ErrTooMany}, {give(patch("a"), big), api.ErrTooMany},
		{ask(append(slices.Clone(names), "a"), nil), api.ErrArg}, {ask(names, words("")), api.ErrArg}, {ask(words("A"), names), api.ErrArg}, {ask(append(slices.Clone(names), strings.Repeat("z", 25)), nil), api.ErrArg},
		{give(big, big), api.ErrArg}, {give(big, patch("")), api.ErrArg},
		{api.Msg{Kind: api.MsgAsk, Patches: patches(big)}, api.ErrArg}, {api.Msg{Kind: api.MsgAsk, Names: names, Err: 1}, api.ErrArg}, {api.Msg{Kind: api.MsgAsk, Names: names, Patches: patches(patch("a"))}, api.ErrArg},
		{api.Msg{Kind: api.MsgGive, Names: words("a"), Patches: patches(big)}, api.ErrArg}, {api.Msg{Kind: api.MsgGive, Have: words("a"), Patches: patches(big)}, api.ErrArg}, {api.Msg{Kind: api.MsgGive, Err: 2, Patches: patches(big)}, api.ErrArg}, {api.Msg{Kind: api.MsgGive, Names: names}, api.ErrArg},
		{api.Msg{Kind: api.MsgNo, Err: 1, Patches: patches(big)}, api.ErrArg}, {api.Msg{Kind: api.MsgNo, Err: 1, Names: names}, api.ErrArg}, {api.Msg{Kind: api.MsgNo, Err: 1, Have: names}, api.ErrArg},
		{api.Msg{Names: names}, api.ErrArg}, {api.Msg{Kind: 4, Patches: patches(big)}, api.ErrArg},
	} {
		if _, e := put(t, c.m); e != c.want {
			t.Errorf("Put of %s is %d; want %d", show(c.m), e, c.want)
		}
		corrupt(t, []byte(messageByWords(c.m)))
	}
}
