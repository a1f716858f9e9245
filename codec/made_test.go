package codec_test

import (
	"math/rand"
	"slices"
	"strings"
	"testing"

	"counterpane/api"
)

func pick[T any](r *rand.Rand, l ...T) T { return l[r.Intn(len(l))] }

func anyLabel(r *rand.Rand) string {
	s := ""
	for range 1 + r.Intn(pick(r, 2, 3, 24)) {
		s += pick(r, "a", "b", "z", "0", "9", ".", "-")
	}
	return s
}

// anyLabels are some, rising, but not one of them.
func anyLabels(r *rand.Rand, most int, not string) []string {
	var l []string
	for range r.Intn(most) {
		if s := anyLabel(r); s != not {
			l = append(l, s)
		}
	}
	slices.Sort(l)
	return slices.Compact(l)
}

// anyText is one, that often looks like what a bundle is made of.
func anyText(r *rand.Rand) string {
	return pick(r, "x", "1:", "0:", ":", "10", "\x00\xff", "7:1:a0:0:", "1:7:1:a0:0:", "1:0:0:0:0:", strings.Repeat("y", 1+r.Intn(120)))
}

func anyPatch(r *rand.Rand) api.Patch {
	p := api.Patch{Name: anyLabel(r)}
	p.Deps = anyLabels(r, pick(r, 1, 3, 9), p.Name)
	for range r.Intn(4) {
		p.Body = append(p.Body, pick(r,
			api.Prim{Kind: 1 + r.Intn(6), Path: "a/b"},
			api.Prim{Kind: api.Move, Path: "a", To: "c/0"},
			api.Prim{Kind: api.Token, Path: "t", From: "x", To: "10"},
			api.Prim{Kind: api.Bytes, Path: "b.c/-", From: "w", To: anyText(r)},
			api.Prim{Kind: api.Lines, Path: "t", At: pick(r, 0, 9, 10, 1<<30), Old: slices.Repeat(words(anyText(r)), r.Intn(3)), New: words("", anyText(r))}))
	}
	return p
}

// anySet is one, in whatever order; seldom it is none.
func anySet(r *rand.Rand) []api.Patch {
	var l []api.Patch
	for range r.Intn(pick(r, 2, 4, 30)) {
		p := anyPatch(r)
		if slices.ContainsFunc(l, func(q api.Patch) bool { return p.Name == q.Name }) && r.Intn(20) > 0 {
			continue
		}
		if r.Intn(100) == 0 {
			p.Name = pick(r, "", "A", strings.Repeat("a", 25))
		}
		l = append(l, p)
	}
	return l
}

// anyMessage is one; seldom it is not right.
func anyMessage(r *rand.Rand) api.Msg {
	m := pick(r, ask(anyLabels(r, 12, ""), anyLabels(r, 12, "")), give(anySet(r)...), give(anySet(r)...), no(api.Errno(1+r.Intn(1000))))
	switch r.Intn(40) {
	case 0:
		m.Kind = r.Intn(5)
	case 1:
		m.Names = append(m.Names, anyLabel(r))
	case 2:
		m.Have = append(m.Have, pick(r, anyLabel(r), "", "A"))
	case 3:
		m.Err = pick(r, 0, -1, 1001, api.ErrLoop)
	case 4:
		m.Patches = append(m.Patches, anyPatch(r))
	}
	return m
}

// TestBundlesThereAndBack is P17.2: a bundle is one set's, in whatever order that stands, and of no other one.
func TestBundlesThereAndBack(t *testing.T) {
	r := rand.New(rand.NewSource(1))
	of := map[string]string{}
	seen := map[api.Errno]int{}
	for range 3000 {
		l := anySet(r)
		b, e := putBundle(t, l)
		seen[e]++
		r.Shuffle(len(l), func(i, j int) { l[i], l[j] = l[j], l[i] })
		if c, f := putBundle(t, l); string(c) != string(b) || e != f {
			t.Fatalf("PutBundle of %s is %.300q, %d; in another order %.300q, %d", show(l), c, f, b, e)
		}
		set := bundleByWords(byName(l))
		if was, there := of[string(b)]; there && b != nil && was != set {
			t.Fatalf("%.300q and %.300q have the same bundle", was, set)
		}
		of[string(b)] = set
	}
	if seen[api.OK] < 2000 || seen[api.ErrArg] < 100 {
		t.Errorf("seen were %v", seen)
	}
}

// TestMessagesThereAndBack is P17.2 likewise.
func TestMessagesThereAndBack(t *testing.T) {
	r := rand.New(rand.NewSource(2))
	seen := map[api.Errno]int{}
	kinds := map[int]int{}
	for range 6000 {
		m := anyMessage(r)
		b, e := put(t, m)
		seen[e]++
		if e == api.OK {
			kinds[m.Kind]++
		}
		r.Shuffle(len(m.Patches), func(i, j int) { m.Patches[i], m.Patches[j] = m.Patches[j], m.Patches[i] })
		if c, f := put(t, m); string(c) != string(b) || e != f {
			t.Fatalf("Put of %s is %.300q, %d; in another order %.300q, %d", show(m), c, f, b, e)
		}
	}
	if seen[api.ErrArg] < 300 || min(kinds[api.MsgAsk], kinds[api.MsgGive], kinds[api.MsgNo]) < 1000 {
		t.Errorf("seen were %v, %v", seen, kinds)
	}
}

// TestCutAndMore is P17.3: at each place, whatever is behind.
func TestCutAndMore(t *testing.T) {
	cutAndMore(t, []byte("0:"), corruptBundle)
	for _, s := range words("1:0:0:0:0:", "2:0:0:0:0:", "3:0:0:1:0:", "3:0:0:1000:0:") {
		cutAndMore(t, []byte(s), corrupt)
	}
	r := rand.New(rand.NewSource(3))
	for range 100 {
		if b, e := putBundle(t, anySet(r)); e == api.OK && len(b) < 3000 {
			cutAndMore(t, b, corruptBundle)
		}
		if b, e := put(t, anyMessage(r)); e == api.OK && len(b) < 3000 {
			cutAndMore(t, b, corrupt)
		}
	}
}

// TestOneByte has bytes with one of them changed, gone, doubled, or another one between.
func TestOneByte(t *testing.T) {
	r := rand.New(rand.NewSource(4))
	seen := map[api.Errno]int{}
	try := func(b []byte, read func(t *testing.T, b []byte) api.Errno) {
		for i := range b {
			for _, c := range []byte{'0', '1', '2', '3', ':', 'a', byte(r.Intn(256))} {
				other := slices.Clone(b)
				other[i] = c
				seen[read(t, other)]++
				seen[read(t, slices.Insert(slices.Clone(b), i, c))]++
			}
			seen[read(t, slices.Delete(slices.Clone(b), i, i+1))]++
			seen[read(t, slices.Insert(slices.Clone(b), i, b[i]))]++
		}
	}
	for range 150 {
		if b, e := putBundle(t, anySet(r)); e == api.OK && len(b) < 600 {
			try(b, getBundle)
		}
		if b, e := put(t, anyMessage(r)); e == api.OK && len(b) < 600 {
			try(b, get)
		}
	}
	if seen[api.OK] < 1000 || seen[api.ErrCorrupt] < 10000 {
		t.Errorf("seen were %v", seen)
	}
}

// TestOtherOrders: patches' bytes are a bundle in one order alone, and names a message's.
func TestOtherOrders(t *testing.T) {
	r := rand.New(rand.NewSource(5))
	for range 300 {
		l := byName(anySet(r))
		names := anyLabels(r, 5, "")
		if !isSet(l) || len(bundleByWords(l)) > 30000 {
			continue
		}
		for range 4 {
			other, turned := slices.Clone(l), slices.Clone(names)
			r.Shuffle(len(l), func(i, j int) { other[i], other[j] = other[j], other[i] })
			r.Shuffle(len(names), func(i, j int) { turned[i], turned[j] = turned[j], turned[i] })
			isSame, isTurned := alikeSets(other, l), !slices.Equal(turned, names)
			if e := getBundle(t, []byte(bundleByWords(other))); isSame != (e == api.OK) {
				t.Errorf("GetBundle of %s is %d", show(other), e)
			}
			if e := get(t, []byte(messageByWords(give(other...)))); isSame != (e == api.OK) {
				t.Errorf("Get of %s is %d", show(other), e)
			}
			for _, m := range []api.Msg{ask(turned, nil), ask(names, turned)} {
				if e := get(t, []byte(messageByWords(m))); isTurned == (e == api.OK) {
					t.Errorf("Get of %s is %d", show(m), e)
				}
			}
		}
	}
}

// TestBundlesAndMessages has what one of the calls writes read by the other one.
func TestBundlesAndMessages(t *testing.T) {
	r := rand.New(rand.NewSource(6))
	for range 300 {
		if b, e := putBundle(t, anySet(r)); e == api.OK {
			get(t, b)
		}
		if b, e := put(t, anyMessage(r)); e == api.OK {
			getBundle(t, b)
		}
	}
	get(t, []byte("0:"))
	getBundle(t, []byte("1:0:0:0:0:"))
}
