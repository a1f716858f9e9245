package datagram_test

import (
	"fmt"
	"slices"
	"strings"
	"testing"

	"counterpane/api"
	"counterpane/datagram"
)

// words are a Net, by the chapter's words: packets, in order.
type words struct{ l []api.Packet }

func (w *words) room() bool { return len(w.l) < api.MaxMail }

func (w *words) there(at int) bool { return at >= 0 && at < len(w.l) }

func (w *words) post(p api.Packet) bool {
	if !w.room() {
		return false
	}
	w.l = append(w.l, p)
	return true
}

func (w *words) take(at int) (api.Packet, bool) {
	if !w.there(at) {
		return api.Packet{}, false
	}
	p := w.l[at]
	w.l = slices.Concat(w.l[:at], w.l[at+1:])
	return p, true
}

func (w *words) double(at int) bool {
	if !w.there(at) || !w.room() {
		return false
	}
	w.l = append(w.l, w.l[at])
	return true
}

// pair is a Net beside the words.
type pair struct {
	n *datagram.Net
	w *words
}

func begun(l ...api.Packet) pair {
	x := pair{datagram.New(), &words{}}
	for _, p := range l {
		x.n.Post(p)
		x.w.post(p)
	}
	return x
}

// alike fails if there are other packets than the words say.
func (x pair) alike(t *testing.T, what string) {
	t.Helper()
	if got := x.n.Many(); got != len(x.w.l) {
		t.Fatalf("behind %s Many is %d; want %d", what, got, len(x.w.l))
	}
	if got := x.n.All(); !slices.EqualFunc(got, x.w.l, same) {
		t.Fatalf("behind %s All is %s; want %s", what, show(got...), show(x.w.l...))
	}
}

func (x pair) post(t *testing.T, p api.Packet) {
	t.Helper()
	what := "Post of " + show(p)
	if got, want := x.n.Post(p), x.w.post(p); got != want {
		t.Fatalf("%s is %t; want %t", what, got, want)
	}
	x.alike(t, what)
}

func (x pair) take(t *testing.T, at int) {
	t.Helper()
	what := fmt.Sprintf("Take(%d)", at)
	p, is := x.n.Take(at)
	if want, wanted := x.w.take(at); is != wanted || !same(p, want) {
		t.Fatalf("%s is %s, %t; want %s, %t", what, show(p), is, show(want), wanted)
	}
	x.alike(t, what)
}

func (x pair) double(t *testing.T, at int) {
	t.Helper()
	what := fmt.Sprintf("Double(%d)", at)
	if got, want := x.n.Double(at), x.w.double(at); got != want {
		t.Fatalf("%s is %t; want %t", what, got, want)
	}
	x.alike(t, what)
}

func same(p, q api.Packet) bool {
	return p.From == q.From && p.To == q.To && string(p.Data) == string(q.Data)
}

func show(l ...api.Packet) string {
	var all []string
	for _, p := range l {
		if len(p.Data) > 20 {
			p.Data = fmt.Appendf(nil, "%d bytes", len(p.Data))
		}
		all = append(all, fmt.Sprintf("%d-%d %q", p.From, p.To, p.Data))
	}
	return "(" + strings.Join(all, ", ") + ")"
}

// packet is one of those bytes.
func packet(data string) api.Packet {
	return api.Packet{From: len(data), To: len(data) + 1, Data: []byte(data)}
}

func packets(l ...string) []api.Packet {
	var all []api.Packet
	for _, data := range l {
		all = append(all, packet(data))
	}
	return all
}

// numbered are packets with their place in them.
func numbered(n int) []api.Packet {
	var l []api.Packet
	for i := range n {
		l = append(l, api.Packet{From: i % 3, To: -i, Data: fmt.Append(nil, i)})
	}
	return l
}
