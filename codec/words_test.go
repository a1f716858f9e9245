package codec_test

import (
	"bytes"
	"cmp"
	"fmt"
	"regexp"
	"slices"
	"strconv"
	"strings"
	"testing"

	"counterpane/api"
	"counterpane/codec"
	"counterpane/named"
)

// The chapter's words, told once more.

func textByWords(s string) string { return fmt.Sprintf("%d:%s", len(s), s) }

func listByWords(l []string) string {
	s := []string{fmt.Sprintf("%d:", len(l))}
	for _, x := range l {
		s = append(s, textByWords(x))
	}
	return strings.Join(s, "")
}

// patchByWords is the bytes of a patch, be it right or not.
func patchByWords(p api.Patch) string {
	s := fmt.Sprintf("%s%s%d:", textByWords(p.Name), listByWords(p.Deps), len(p.Body))
	for _, x := range p.Body {
		s += fmt.Sprintf("%d:%s%s%s%d:%s%s", x.Kind, textByWords(x.Path), textByWords(x.To), textByWords(x.From), x.At, listByWords(x.Old), listByWords(x.New))
	}
	return s
}

// bundleByWords is the bundle of patches as they stand, be they a set or not.
func bundleByWords(l []api.Patch) string {
	s := []string{fmt.Sprintf("%d:", len(l))}
	for _, p := range l {
		s = append(s, textByWords(patchByWords(p)))
	}
	return strings.Join(s, "")
}

// messageByWords is the bytes of a message as it stands, be it right or not.
func messageByWords(m api.Msg) string {
	return fmt.Sprintf("%d:%s%s%d:%s", m.Kind, listByWords(m.Names), listByWords(m.Have), m.Err, bundleByWords(m.Patches))
}

func isSet(l []api.Patch) bool {
	if len(l) > 256 {
		return false
	}
	for i, p := range l {
		if !named.Right(p) || slices.ContainsFunc(l[:i], func(q api.Patch) bool { return p.Name == q.Name }) {
			return false
		}
	}
	return true
}

func byName(l []api.Patch) []api.Patch {
	l = slices.Clone(l)
	slices.SortStableFunc(l, func(p, q api.Patch) int { return strings.Compare(p.Name, q.Name) })
	return l
}

// risingLabels tells whether those are labels, and rise.
func risingLabels(l []string) bool {
	return !slices.ContainsFunc(l, func(s string) bool { return !named.Label(s) }) && slices.IsSorted(l) && len(slices.Compact(slices.Clone(l))) == len(l)
}

func isMessage(m api.Msg) bool {
	ask, give, no := m.Kind == 1, m.Kind == 2, m.Kind == 3
	return (ask || give || no) &&
		risingLabels(m.Names) && risingLabels(m.Have) && (ask || len(m.Names) == 0 && len(m.Have) == 0) &&
		(no && 1 <= m.Err && m.Err <= 1000 || !no && m.Err == 0) &&
		isSet(m.Patches) && (give || len(m.Patches) == 0)
}

// strict reads what the chapter says bytes are; it holds all against its words as it goes, and makes nothing again.
type strict struct {
	left string
	none bool
}

var number = regexp.MustCompile(`^(0|[1-9][0-9]*):`)

// number tells none of more than six digits: nothing that is not too long has one.
func (r *strict) number() int {
	found := number.FindString(r.left)
	n, err := strconv.Atoi(strings.TrimSuffix(found, ":"))
	if err != nil || n > 999999 {
		r.none, r.left = true, ""
		return 0
	}
	r.left = r.left[len(found):]
	return n
}

func (r *strict) text() string {
	n := r.number()
	if n > len(r.left) {
		r.none, r.left = true, ""
		return ""
	}
	s := r.left[:n]
	r.left = r.left[n:]
	return s
}

func (r *strict) list() []string {
	var l []string
	for n := r.number(); n > 0 && !r.none; n-- {
		l = append(l, r.text())
	}
	return l
}

func (r *strict) bundle() []api.Patch {
	var l []api.Patch
	for n := r.number(); n > 0 && !r.none; n-- {
		p, e := named.Get([]byte(r.text()))
		r.none = r.none || e != api.OK
		l = append(l, p)
	}
	r.none = r.none || !isSet(l) || !slices.IsSortedFunc(l, func(p, q api.Patch) int { return cmp.Compare(p.Name, q.Name) })
	return l
}

func getBundleByWords(b []byte) ([]api.Patch, api.Errno) {
	r := &strict{left: string(b)}
	l := r.bundle()
	if r.none || r.left != "" || len(b) > 32768 {
		return nil, api.ErrCorrupt
	}
	return l, api.OK
}

func getByWords(b []byte) (api.Msg, api.Errno) {
	r := &strict{left: string(b)}
	var m api.Msg
	m.Kind, m.Names, m.Have = r.number(), r.list(), r.list()
	m.Err, m.Patches = api.Errno(r.number()), r.bundle()
	if r.none || r.left != "" || len(b) > 32768 || !isMessage(m) {
		return api.Msg{}, api.ErrCorrupt
	}
	return m, api.OK
}

func alikeChange(x, y api.Prim) bool {
	return x.Kind == y.Kind && x.Path == y.Path && x.To == y.To && x.From == y.From && x.At == y.At && slices.Equal(x.Old, y.Old) && slices.Equal(x.New, y.New)
}

func alike(p, q api.Patch) bool {
	return p.Name == q.Name && slices.Equal(p.Deps, q.Deps) && slices.EqualFunc(p.Body, q.Body, alikeChange)
}

func alikeSets(l, k []api.Patch) bool { return slices.EqualFunc(l, k, alike) }

func alikeMessages(m, o api.Msg) bool {
	return m.Kind == o.Kind && slices.Equal(m.Names, o.Names) && slices.Equal(m.Have, o.Have) && m.Err == o.Err && alikeSets(m.Patches, o.Patches)
}

// show tells something, at least its beginning.
func show(what any) string { return fmt.Sprintf("%.300s", fmt.Sprintf("%+v", what)) }

// putBundle holds the bundle of patches against the words, and asks that it is theirs alone (P17.2).
func putBundle(t *testing.T, l []api.Patch) ([]byte, api.Errno) {
	t.Helper()
	want, wanted := bundleByWords(byName(l)), api.OK
	if !isSet(l) {
		want, wanted = "", api.ErrArg
	} else if len(want) > 32768 {
		want, wanted = "", api.ErrTooMany
	}
	b, e := codec.PutBundle(l)
	if string(b) != want || e != wanted {
		t.Fatalf("PutBundle of %s is %.300q, %d; want %.300q, %d", show(l), b, e, want, wanted)
	}
	if e != api.OK {
		return nil, e
	}
	if k, e := codec.GetBundle(b); e != api.OK || !alikeSets(k, byName(l)) {
		t.Fatalf("GetBundle of %.300q is %s, %d; want %s", b, show(k), e, show(byName(l)))
	}
	return b, api.OK
}

// getBundle holds what is read against the words, and puts it once more (P17.2).
func getBundle(t *testing.T, b []byte) api.Errno {
	t.Helper()
	l, e := codec.GetBundle(b)
	if want, wanted := getBundleByWords(b); e != wanted || !alikeSets(l, want) {
		t.Fatalf("GetBundle of %.300q is %s, %d; want %s, %d", b, show(l), e, show(want), wanted)
	}
	if e != api.OK {
		return e
	}
	if c, e := codec.PutBundle(l); e != api.OK || !bytes.Equal(b, c) {
		t.Fatalf("%.300q is %s, which is put as %.300q, %d", b, show(l), c, e)
	}
	return e
}

// put is putBundle of a message.
func put(t *testing.T, m api.Msg) ([]byte, api.Errno) {
	t.Helper()
	of := m
	of.Patches = byName(m.Patches)
	want, wanted := messageByWords(of), api.OK
	if !isMessage(m) {
		want, wanted = "", api.ErrArg
	} else if len(want) > 32768 {
		want, wanted = "", api.ErrTooMany
	}
	b, e := codec.Put(m)
	if string(b) != want || e != wanted {
		t.Fatalf("Put of %s is %.300q, %d; want %.300q, %d", show(m), b, e, want, wanted)
	}
	if e != api.OK {
		return nil, e
	}
	if got, e := codec.Get(b); e != api.OK || !alikeMessages(got, of) {
		t.Fatalf("Get of %.300q is %s, %d; want %s", b, show(got), e, show(of))
	}
	return b, api.OK
}

// get is getBundle of a message.
func get(t *testing.T, b []byte) api.Errno {
	t.Helper()
	m, e := codec.Get(b)
	if want, wanted := getByWords(b); e != wanted || !alikeMessages(m, want) {
		t.Fatalf("Get of %.300q is %s, %d; want %s, %d", b, show(m), e, show(want), wanted)
	}
	if e != api.OK {
		return e
	}
	if c, e := codec.Put(m); e != api.OK || !bytes.Equal(b, c) {
		t.Fatalf("%.300q is %s, which is put as %.300q, %d", b, show(m), c, e)
	}
	return e
}

// corruptBundle asks that bytes are no bundle.
func corruptBundle(t *testing.T, b []byte) {
	t.Helper()
	if l, e := codec.GetBundle(b); e != api.ErrCorrupt || len(l) != 0 {
		t.Errorf("GetBundle of %.300q is %s, %d; want ErrCorrupt alone", b, show(l), e)
	}
}

// corrupt asks that bytes are no message's.
func corrupt(t *testing.T, b []byte) {
	t.Helper()
	if m, e := codec.Get(b); e != api.ErrCorrupt || !alikeMessages(m, api.Msg{}) {
		t.Errorf("Get of %.300q is %s, %d; want ErrCorrupt alone", b, show(m), e)
	}
}
