package datagram_test

import (
	"bytes"
	"fmt"
	"math"
	"strings"
	"testing"

	"counterpane/api"
	"counterpane/datagram"
)

// left tells the Data of all, in order.
func left(n *datagram.Net) string {
	var l []string
	for _, p := range n.All() {
		l = append(l, string(p.Data))
	}
	return strings.Join(l, " ")
}

// TestByHand: what is left behind a row of calls, each of which is told with its answer.
func TestByHand(t *testing.T) {
	for _, x := range []struct{ posted, calls, left string }{
		{"", "", ""},
		{"a", "", "a"},
		{"a b", "double 0 true, take 0 a", "b a"},
		{"a b", "take 0 a", "b"},
		{"a b", "take 1 b", "a"},
		{"a b", "take 2 none", "a b"},
		{"a b", "take -1 none", "a b"},
		{"a b", "double 2 false", "a b"},
		{"a b", "double -1 false", "a b"},
		{"a b", "double 1 true", "a b b"},
		{"a b c", "take 1 b, take 1 c, take 1 none, take 0 a, take 0 none", ""},
		{"a b c", "take 1 b, double 1 true, double 0 true", "a c c a"},
		{"a b c d", "take 2 c, take 0 a", "b d"},
		{"a a", "take 1 a", "a"},
		{"a", "double 0 true, double 1 true, double 2 true, take 1 a", "a a a"},
		{"a", "take 0 a, double 0 false", ""},
		{"", "take 0 none, double 0 false", ""},
	} {
		n := datagram.New()
		for _, data := range strings.Fields(x.posted) {
			if !n.Post(packet(data)) {
				t.Fatalf("%s cannot be posted", data)
			}
		}
		for _, call := range strings.FieldsFunc(x.calls, func(r rune) bool { return r == ',' }) {
			var how, want string
			var at int
			fmt.Sscan(call, &how, &at, &want)
			if got := answered(n, how, at); got != want {
				t.Errorf("of %q, in %q: %s %d is %s; want %s", x.posted, x.calls, how, at, got, want)
			}
		}
		if got := left(n); got != x.left {
			t.Errorf("of %q, behind %q there is %q; want %q", x.posted, x.calls, got, x.left)
		}
	}
}

func answered(n *datagram.Net, how string, at int) string {
	if how == "double" {
		return fmt.Sprint(n.Double(at))
	}
	p, is := n.Take(at)
	if !is {
		return "none"
	}
	return string(p.Data)
}

// TestNew: one without any.
func TestNew(t *testing.T) {
	n := datagram.New()
	if n == nil || n.Many() != 0 || len(n.All()) != 0 {
		t.Errorf("it has %d: %s", n.Many(), show(n.All()...))
	}
}

// TestNoPlace: there is none at places beyond the ends, and all stays.
func TestNoPlace(t *testing.T) {
	for many := range 4 {
		for _, at := range []int{-1, -2, many, many + 1, -many, -api.MaxMail, api.MaxMail - 1, api.MaxMail, math.MaxInt32, 1 << 32, -1 << 32, math.MaxInt, math.MinInt} {
			if at == 0 && many > 0 {
				continue
			}
			x := begun(numbered(many)...)
			x.take(t, at)
			x.double(t, at)
			if p, is := x.n.Take(at); is || p.From != 0 || p.To != 0 || len(p.Data) != 0 {
				t.Errorf("of %d Take(%d) is %s, %t", many, at, show(p), is)
			}
			if x.n.Double(at) {
				t.Errorf("of %d Double(%d) is true", many, at)
			}
		}
	}
}

// TestRoom: there is room for MaxMail, posted or doubled, and none for one more; what is taken makes room for just one.
func TestRoom(t *testing.T) {
	x := begun()
	for i, p := range numbered(api.MaxMail) {
		if i%3 == 2 {
			x.double(t, i/2)
		} else {
			x.post(t, p)
		}
	}
	if got := x.n.Many(); got != api.MaxMail {
		t.Fatalf("there are %d", got)
	}
	for _, at := range []int{0, 1, 100, 254, 255} {
		for range 3 {
			x.post(t, packet("more"))
			x.double(t, at)
		}
		if x.n.Post(packet("more")) || x.n.Double(at) {
			t.Errorf("there is room for more, at %d", at)
		}
		x.take(t, at)
		x.post(t, packet("new"))
		x.post(t, packet("more"))
		x.take(t, at)
		x.double(t, at)
		x.double(t, at)
	}
}

// TestTakenAway: of a full one, from each place on, all that is there can be taken, and then none.
func TestTakenAway(t *testing.T) {
	for _, at := range []int{0, 1, 127, 254, 255} {
		x := begun(numbered(api.MaxMail)...)
		for i := range api.MaxMail {
			x.take(t, min(at, api.MaxMail-1-i))
		}
		x.take(t, 0)
		x.post(t, packet("a"))
	}
}

// TestEachPlace: each place of a full one can be taken, and doubled when there is room.
func TestEachPlace(t *testing.T) {
	for at := range api.MaxMail {
		x := begun(numbered(api.MaxMail)...)
		x.take(t, at)
		x.double(t, at)
		x.double(t, (at+1)%api.MaxMail)
	}
}

// TestAnyPacket: there is no packet that may not be posted, whoever sends it to whom, and whatever its Data is.
func TestAnyPacket(t *testing.T) {
	var l []api.Packet
	places := []int{0, 1, 3, 4, -1, math.MaxInt, math.MinInt}
	for _, from := range places {
		for _, to := range places {
			l = append(l, api.Packet{From: from, To: to, Data: []byte("x")})
		}
	}
	var bytewise []byte
	for b := range 256 {
		bytewise = append(bytewise, byte(b))
	}
	for _, data := range [][]byte{nil, {}, {0}, bytewise, bytes.Repeat([]byte("y"), api.MaxBundle), bytes.Repeat([]byte("z"), 1<<20+1)} {
		l = append(l, api.Packet{Data: data}, api.Packet{From: 2, To: 1, Data: data})
	}
	x := begun()
	for _, p := range l {
		x.post(t, p)
		x.double(t, x.n.Many()-1)
	}
	for i := range 2 * len(l) {
		x.take(t, i*7%x.n.Many())
	}
	if x.n.Many() != 0 {
		t.Errorf("%d are left", x.n.Many())
	}
}
