package named_test

import (
	"math/rand"
	"slices"
	"strings"
	"testing"

	"counterpane/api"
	"counterpane/named"
)

func pick[T any](r *rand.Rand, l ...T) T { return l[r.Intn(len(l))] }

func anyLabel(r *rand.Rand) string {
	s := ""
	for range 1 + r.Intn(pick(r, 2, 3, 24)) {
		s += pick(r, "a", "b", "z", "0", "9", ".", "-")
	}
	return s
}

// anyLines are some, many of which look like numbers and texts.
func anyLines(r *rand.Rand) []string {
	var l []string
	for range r.Intn(4) {
		l = append(l, pick(r, "", "x", "1:", "0:", ":", "10", "\x00\xff", "2:ab", strings.Repeat("y", r.Intn(120))))
	}
	return l
}

func anyPrim(r *rand.Rand) api.Prim {
	p := pick(r, "a", "a/b", "b.c/-")
	switch kind := 1 + r.Intn(10); kind {
	case api.Lines:
		return linesOf(p, pick(r, 0, 1, 9, 10, 11, 100, 1<<30, r.Intn(1<<30)), anyLines(r), append(anyLines(r), "z"))
	case api.Token:
		return token(p, pick(r, "x", "10"), pick(r, "y", "_1"))
	case api.Bytes:
		return bytesOf(p, pick(r, "", "1:", "\n"), pick(r, "2:", "3:a0:0:", "\x00:"))
	case api.Move:
		return moved(p, pick(r, "c", "c/0", "bb"))
	default:
		return plain(kind, p)
	}
}

func anyPatch(r *rand.Rand) api.Patch {
	p := api.Patch{Name: anyLabel(r)}
	for range r.Intn(4) * r.Intn(4) {
		if dep := anyLabel(r); dep != p.Name {
			p.Deps = append(p.Deps, dep)
		}
	}
	slices.Sort(p.Deps)
	p.Deps = slices.Compact(p.Deps)
	for range r.Intn(4) * r.Intn(3) {
		p.Body = append(p.Body, anyPrim(r))
	}
	return p
}

// TestThereAndBack is P13.2, of patches that are right, and of some that are not.
func TestThereAndBack(t *testing.T) {
	r := rand.New(rand.NewSource(1))
	of := map[string]string{}
	right, wrong := 0, 0
	for range 20000 {
		p := anyPatch(r)
		if r.Intn(8) == 0 {
			spoilOne(r, &p)
		}
		b := put(t, p)
		if b == nil {
			wrong++
			continue
		}
		right++
		if was, there := of[string(b)]; there && was != show(p) {
			t.Fatalf("%s and %s have the same bytes", was, show(p))
		}
		of[string(b)] = show(p)
	}
	if right < 10000 || wrong < 500 {
		t.Errorf("%d were right, %d not", right, wrong)
	}
}

// spoilOne makes something else of one part of a patch.
func spoilOne(r *rand.Rand, p *api.Patch) {
	switch n := r.Intn(4); {
	case n == 0:
		p.Name = pick(r, "", "A", strings.Repeat("a", 25), "a:")
	case n == 1 && len(p.Deps) > 0:
		p.Deps[r.Intn(len(p.Deps))] = pick(r, "", "zz", p.Name, p.Deps[0])
	case n == 2:
		p.Deps = append(p.Deps, pick(r, "-", "a", p.Name, "zzz"))
	default:
		p.Body = append(p.Body, pick(r, wrongPrims()...))
	}
}

// TestCutAndMore is P13.3: at each place, whatever is behind.
func TestCutAndMore(t *testing.T) {
	r := rand.New(rand.NewSource(2))
	l := rightOnes()
	for range 300 {
		l = append(l, anyPatch(r))
	}
	for _, p := range l {
		b := put(t, p)
		if len(b) > 3000 {
			b = put(t, patch(p.Name, p.Deps, p.Body[:min(len(p.Body), 2)]...))
		}
		for n := range min(len(b), 3000) {
			corrupt(t, b[:n:n])
			corrupt(t, b[:len(b)-1-n])
		}
		for c := range 256 {
			corrupt(t, append(slices.Clone(b), byte(c)))
		}
		for _, more := range [][]byte{b, []byte("0:"), []byte("1:a"), []byte("1:a0:0:"), []byte("1:1:a0:0:0:0:0:")} {
			corrupt(t, append(slices.Clone(b), more...))
			get(t, append(slices.Clone(more), b...))
		}
	}
}

// TestOneByte has patches' bytes with one of them changed, gone, doubled, or another one between.
func TestOneByte(t *testing.T) {
	r := rand.New(rand.NewSource(3))
	seen := map[api.Errno]int{}
	for range 300 {
		b := put(t, anyPatch(r))
		for i := range b {
			for _, c := range []byte{'0', '1', '2', '9', ':', 'a', '-', '\n', byte(r.Intn(256))} {
				other := slices.Clone(b)
				other[i] = c
				seen[get(t, other)]++
				seen[get(t, slices.Insert(slices.Clone(b), i, c))]++
			}
			seen[get(t, slices.Delete(slices.Clone(b), i, i+1))]++
			seen[get(t, slices.Insert(slices.Clone(b), i, b[i]))]++
		}
	}
	if seen[api.OK] < 1000 || seen[api.ErrCorrupt] < 10000 {
		t.Errorf("seen were %v", seen)
	}
}

// TestOtherOrder has the fields of a change in other orders: the bytes have the form, but are other changes', if any.
func TestOtherOrder(t *testing.T) {
	for s, want := range map[string]api.Errno{
		"1:a0:1:8:1:p1:y1:x0:0:0:":         api.OK,
		"1:a0:1:8:1:p1:x1:y0:0:0:":         api.OK,
		"1:a0:1:1:p8:1:y1:x0:0:0:":         api.ErrCorrupt,
		"1:a0:1:8:0:1:y1:x0:1:p0:":         api.ErrCorrupt,
		"1:a0:1:8:1:p1:y1:x0:0:":           api.ErrCorrupt,
		"1:a0:1:8:1:p1:y1:x0:0:0:0:":       api.ErrCorrupt,
		"0:1:a1:8:1:p1:y1:x0:0:0:":         api.ErrCorrupt,
		"1:a1:8:1:p1:y1:x0:0:0:0:":         api.ErrCorrupt,
		"1:8:1:p1:y1:x0:0:0:1:a0:":         api.ErrCorrupt,
		"1:a0:1:7:1:p0:0:3:1:1:x0:":        api.OK,
		"1:a0:1:7:1:p0:0:1:1:x3:0:":        api.ErrCorrupt,
		"1:a0:1:7:1:p0:0:3:0:1:1:x":        api.OK,
		"1:a0:1:7:3:1:p0:0:1:1:x0:":        api.ErrCorrupt,
		"1:a0:1:10:1:p1:q0:0:0:0:":         api.OK,
		"1:a0:1:10:1:p0:1:q0:0:0:":         api.ErrCorrupt,
		"1:a0:1:9:1:p1:q0:0:0:0:":          api.OK,
		"1:a0:1:9:1:p0:1:q0:0:0:":          api.OK,
		"1:a0:1:9:1:p1:q1:q0:0:0:":         api.ErrCorrupt,
		"1:a0:1:1:1:p0:0:0:0:0:1:":         api.ErrCorrupt,
		"1:a0:2:1:1:p0:0:0:0:0:":           api.ErrCorrupt,
		"1:a0:0:1:1:p0:0:0:0:0:":           api.ErrCorrupt,
		"1:a2:1:b1:c0:":                    api.OK,
		"1:a2:1:c1:b0:":                    api.ErrCorrupt,
		"1:a2:1:b1:b0:":                    api.ErrCorrupt,
		"1:a1:1:b1:c0:":                    api.ErrCorrupt,
		"1:a3:1:b1:c0:":                    api.ErrCorrupt,
		"1:a1:1:a0:":                       api.ErrCorrupt,
		"1:A0:0:":                          api.ErrCorrupt,
		"24:abcdefghijklmnopqrstuvwx0:0:":  api.OK,
		"25:abcdefghijklmnopqrstuvwxy0:0:": api.ErrCorrupt,
	} {
		if e := get(t, []byte(s)); e != want {
			t.Errorf("Get(%q) is %d; want %d", s, e, want)
		}
		if _, e := named.Get([]byte(s)); e != want {
			t.Errorf("Get(%q) once more is %d; want %d", s, e, want)
		}
	}
}
