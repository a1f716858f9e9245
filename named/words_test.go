package named_test

import (
	"bytes"
	"errors"
	"fmt"
	"regexp"
	"slices"
	"strconv"
	"strings"
	"testing"

	"counterpane/api"
	"counterpane/named"
	"counterpane/prim"
)

// The chapter's words, told once more.

var label = regexp.MustCompile(`^[a-z0-9.-]{1,24}$`)

func labelByWords(s string) bool { return !strings.HasSuffix(s, "\n") && label.MatchString(s) }

func rightByWords(p api.Patch) bool {
	for i, dep := range p.Deps {
		if !labelByWords(dep) || dep == p.Name || slices.Max(p.Deps[:i+1]) != dep || slices.Index(p.Deps, dep) != i {
			return false
		}
	}
	return labelByWords(p.Name) && len(p.Deps) <= 256 && len(p.Body) <= 256 && !slices.ContainsFunc(p.Body, func(x api.Prim) bool { return !prim.Right(x) })
}

func textByWords(s string) string { return fmt.Sprintf("%d:%s", len(s), s) }

func listByWords(l []string) string {
	s := fmt.Sprintf("%d:", len(l))
	for _, x := range l {
		s += textByWords(x)
	}
	return s
}

// putByWords is the bytes of a patch, be it right or not.
func putByWords(p api.Patch) []byte {
	var b bytes.Buffer
	fmt.Fprintf(&b, "%s%s%d:", textByWords(p.Name), listByWords(p.Deps), len(p.Body))
	for _, x := range p.Body {
		fmt.Fprintf(&b, "%d:%s%s%s%d:%s%s", x.Kind, textByWords(x.Path), textByWords(x.To), textByWords(x.From), x.At, listByWords(x.Old), listByWords(x.New))
	}
	return b.Bytes()
}

var errNone = errors.New("there is none")

// loose reads what may be bytes of a patch, and more than these: which they are is told by putting them once more.
type loose struct{ left string }

func (r *loose) number() int {
	digits, left, is := strings.Cut(r.left, ":")
	n, err := strconv.Atoi(digits)
	if !is || err != nil || n < 0 {
		panic(errNone)
	}
	r.left = left
	return n
}

func (r *loose) text() string {
	n := r.number()
	if n > len(r.left) {
		panic(errNone)
	}
	s := r.left[:n]
	r.left = r.left[n:]
	return s
}

func (r *loose) list() []string {
	var l []string
	for range r.number() {
		l = append(l, r.text())
	}
	return l
}

// getByWords is the patch whose bytes those are, if there is one.
func getByWords(b []byte) (p api.Patch, e api.Errno) {
	defer func() {
		if err := recover(); err != nil {
			if err != errNone {
				panic(err)
			}
			p, e = api.Patch{}, api.ErrCorrupt
		}
	}()
	r := &loose{string(b)}
	q := api.Patch{Name: r.text(), Deps: r.list()}
	for range r.number() {
		var x api.Prim
		x.Kind, x.Path, x.To, x.From = r.number(), r.text(), r.text(), r.text()
		x.At, x.Old, x.New = r.number(), r.list(), r.list()
		q.Body = append(q.Body, x)
	}
	if !rightByWords(q) || !bytes.Equal(putByWords(q), b) {
		return api.Patch{}, api.ErrCorrupt
	}
	return q, api.OK
}

func alikePrim(p, q api.Prim) bool {
	return p.Kind == q.Kind && p.Path == q.Path && p.To == q.To && p.From == q.From && p.At == q.At && slices.Equal(p.Old, q.Old) && slices.Equal(p.New, q.New)
}

func alike(p, q api.Patch) bool {
	return p.Name == q.Name && slices.Equal(p.Deps, q.Deps) && slices.EqualFunc(p.Body, q.Body, alikePrim)
}

// show tells something, at least its beginning.
func show(what any) string { return fmt.Sprintf("%.300s", fmt.Sprintf("%+v", what)) }

// put asks for the bytes of a patch, and that they are its own alone (P13.2).
func put(t *testing.T, p api.Patch) []byte {
	t.Helper()
	if named.Right(p) != rightByWords(p) {
		t.Fatalf("Right(%s) is %v", show(p), named.Right(p))
	}
	b, e := named.Put(p)
	if !rightByWords(p) {
		if len(b) != 0 || e != api.ErrArg {
			t.Fatalf("Put(%s) is %.300q, %d; want ErrArg alone", show(p), b, e)
		}
		return nil
	}
	if want := putByWords(p); e != api.OK || !bytes.Equal(b, want) {
		t.Fatalf("Put(%s) is %.300q, %d; want %.300q", show(p), b, e, want)
	}
	if q, e := named.Get(b); e != api.OK || !alike(p, q) {
		t.Fatalf("Get of %.300q is %s, %d; want %s", b, show(q), e, show(p))
	}
	return b
}

// get holds what is read against the words, and puts it once more (P13.2).
func get(t *testing.T, b []byte) api.Errno {
	t.Helper()
	p, e := named.Get(b)
	if want, wanted := getByWords(b); e != wanted || !alike(p, want) {
		t.Fatalf("Get(%.300q) is %s, %d; want %s, %d", b, show(p), e, show(want), wanted)
	}
	if e != api.OK {
		return e
	}
	if c, e := named.Put(p); e != api.OK || !bytes.Equal(b, c) {
		t.Fatalf("%.300q is %s, which is put as %.300q, %d", b, show(p), c, e)
	}
	return e
}

// TestShortBytes has all short rows of a few bytes.
func TestShortBytes(t *testing.T) {
	seen := map[api.Errno]int{}
	var row func(b []byte, more int)
	row = func(b []byte, more int) {
		seen[get(t, b)]++
		if more == 0 {
			return
		}
		for _, c := range []byte("012:a") {
			row(append(b[:len(b):len(b)], c), more-1)
		}
	}
	row(nil, 8)
	if seen[api.OK] < 10 || seen[api.ErrCorrupt] < 100000 {
		t.Errorf("seen were %v", seen)
	}
}

// TestShortRows has all short rows of what a patch's bytes are made of.
func TestShortRows(t *testing.T) {
	seen := map[api.Errno]int{}
	pieces := []string{"0:", "1:", "2:", "1:a", "1:b", "1:c", "01:a", "2:a", "00:", "a"}
	var row func(s string, more int)
	row = func(s string, more int) {
		seen[get(t, []byte(s))]++
		if more == 0 {
			return
		}
		for _, piece := range pieces {
			row(s+piece, more-1)
		}
	}
	row("", 5)
	row("1:c1:1:b1:", 4)
	for _, kind := range []string{"0:", "1:", "2:", "7:", "9:", "10:", "11:"} {
		row("1:c0:1:"+kind+"1:a", 5)
	}
	if seen[api.OK] < 50 || seen[api.ErrCorrupt] < 100000 {
		t.Errorf("seen were %v", seen)
	}
}
