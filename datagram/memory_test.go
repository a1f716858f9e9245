package datagram_test

import (
	"testing"

	"counterpane/api"
	"counterpane/datagram"
)

// roomy is a packet with spare room behind its Data, in which something stands.
func roomy() api.Packet {
	return api.Packet{From: 1, To: 2, Data: []byte("data spare spare")[:4]}
}

// spoil changes all of a packet's Data, and its spare room.
func spoil(p api.Packet) {
	l := p.Data[:cap(p.Data)]
	for i := range l {
		l[i] = '!'
	}
}

// spoilAll does so with several, and puts another one in place of each, and in the spare room behind them.
func spoilAll(l []api.Packet) {
	l = l[:cap(l)]
	for i, p := range l {
		spoil(p)
		l[i] = packet("spoilt")
	}
}

// worked is a net in which that packet was posted and doubled.
func worked(p api.Packet) *datagram.Net {
	n := datagram.New()
	n.Post(p)
	n.Double(0)
	n.Post(p)
	n.Double(1)
	return n
}

func isRoomy(p api.Packet) bool { return same(p, roomy()) }

// TestHandedIn: what is handed in stays as it was, its spare room too, whatever is done to what comes out.
func TestHandedIn(t *testing.T) {
	p := roomy()
	n := worked(p)
	spoilAll(n.All())
	for range 4 {
		taken, _ := n.Take(0)
		spoil(taken)
	}
	if got := string(p.Data[:cap(p.Data)]); got != "data spare spare" || !isRoomy(p) {
		t.Errorf("it became %q", got)
	}
	for range api.MaxMail + 1 {
		n.Post(p)
	}
	if got := string(p.Data[:cap(p.Data)]); got != "data spare spare" || !isRoomy(p) {
		t.Errorf("of a full net it became %q", got)
	}
}

// TestNotKept: what is done to what was handed in, or came out, is not to be seen in the net.
func TestNotKept(t *testing.T) {
	p := roomy()
	n := worked(p)
	spoil(p)
	for range 3 {
		l := n.All()
		for i, q := range l {
			if !isRoomy(q) {
				t.Fatalf("%d became %s", i, show(q))
			}
		}
		spoilAll(l)
	}
	for i := 3; i >= 0; i-- {
		n.Double(i)
		q, is := n.Take(i)
		if !is || !isRoomy(q) {
			t.Fatalf("%d became %s", i, show(q))
		}
		spoil(q)
	}
	if n.Many() != 4 {
		t.Fatalf("%d are left", n.Many())
	}
	for i := range 4 {
		q, is := n.Take(0)
		if !is || !isRoomy(q) {
			t.Fatalf("the double of %d became %s", i, show(q))
		}
		spoil(q)
	}
}

// TestListsOfOneAnswer: no two packets of All share memory, though they are doubles.
func TestListsOfOneAnswer(t *testing.T) {
	l := worked(roomy()).All()
	for i, p := range l {
		if !isRoomy(p) {
			t.Fatalf("%d shares memory with one ahead of it", i)
		}
		spoil(p)
	}
}

// TestTwoNets: two have nothing to do with one another, nor with what goes from one of them to the other.
func TestTwoNets(t *testing.T) {
	n, m := worked(roomy()), datagram.New()
	for _, p := range n.All() {
		m.Post(p)
	}
	p, _ := n.Take(0)
	m.Post(p)
	spoil(p)
	p, _ = m.Take(1)
	spoil(p)
	if n.Many() != 3 || m.Many() != 4 {
		t.Fatalf("there are %d and %d", n.Many(), m.Many())
	}
	for _, p := range append(n.All(), m.All()...) {
		if !isRoomy(p) {
			t.Fatalf("it became %s", show(p))
		}
	}
}

// TestOnceMore: the same of the same, however often it is asked, and whatever other ones do in between.
func TestOnceMore(t *testing.T) {
	n := worked(roomy())
	want := show(n.All()...)
	for i := range 20 {
		worked(packet("other")).Take(i % 4)
		if got := show(n.All()...); got != want || n.Many() != 4 {
			t.Fatalf("it is %s; want %s", got, want)
		}
	}
}
