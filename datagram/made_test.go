package datagram_test

import (
	"fmt"
	"math/rand"
	"slices"
	"testing"

	"counterpane/api"
	"counterpane/datagram"
)

// call is one of a script's: of kind 0 a Post, of 1 a Take, of 2 a Double.
type call struct{ kind, at int }

func (x pair) do(t *testing.T, c call, p api.Packet) {
	t.Helper()
	switch c.kind {
	case 0:
		x.post(t, p)
	case 1:
		x.take(t, c.at)
	case 2:
		x.double(t, c.at)
	}
}

// TestAllScripts: all rows of up to five calls, at places from -1 to 3.
func TestAllScripts(t *testing.T) {
	calls := []call{{0, 0}}
	for at := -1; at <= 3; at++ {
		calls = append(calls, call{1, at}, call{2, at})
	}
	var row []call
	var on func(most int)
	on = func(most int) {
		x := begun()
		for i, c := range row {
			x.do(t, c, packet("abcdef"[i:i+1]))
		}
		if len(row) == most {
			return
		}
		for _, c := range calls {
			row = append(row, c)
			on(most)
			row = row[:len(row)-1]
		}
	}
	on(5)
}

// TestSeeded: long scripts, about each number of packets in turn, the greatest one too.
func TestSeeded(t *testing.T) {
	for seed := range int64(60) {
		r := rand.New(rand.NewSource(seed))
		x := begun(numbered(r.Intn(api.MaxMail + 1))...)
		for i := range 300 {
			c := call{r.Intn(3), r.Intn(x.n.Many()+3) - 1}
			if seed%3 == 1 && r.Intn(2) == 0 {
				c.kind = 0
			}
			if seed%3 == 2 && r.Intn(2) == 0 {
				c.kind = 1
			}
			x.do(t, c, api.Packet{From: r.Intn(4), To: r.Intn(4), Data: fmt.Append(nil, "p", i)})
		}
	}
}

// TestTakenWasPosted is P19.2, by what is answered alone: each of what was posted and doubled is taken at most as often, and of those that were there, and stay, the order is as it was.
func TestTakenWasPosted(t *testing.T) {
	for seed := range int64(10) {
		r := rand.New(rand.NewSource(100 + seed))
		n := datagram.New()
		owed := map[string]int{}
		for i := range 1000 {
			was := told(n)
			at := r.Intn(len(was)+3) - 1
			switch r.Intn(5) {
			case 0, 1:
				p := api.Packet{From: r.Intn(4), To: r.Intn(4), Data: fmt.Append(nil, i)}
				if n.Post(p) {
					owed[show(p)]++
					was = append(was, show(p))
				}
			case 2, 3:
				if p, is := n.Take(at); is {
					owed[show(p)]--
					if owed[show(p)] < 0 {
						t.Fatalf("%s was taken more often than it was posted", show(p))
					}
					if was[at] != show(p) {
						t.Fatalf("%s was taken, where %s was", show(p), was[at])
					}
					was = slices.Delete(was, at, at+1)
				}
			case 4:
				if n.Double(at) {
					owed[was[at]]++
					was = append(was, was[at])
				}
			}
			if got := told(n); !slices.Equal(got, was) {
				t.Fatalf("%q is there; want %q", got, was)
			}
		}
		for n.Many() > 0 {
			p, is := n.Take(n.Many() / 2)
			if owed[show(p)]--; !is || owed[show(p)] < 0 {
				t.Fatalf("%s was taken more often than it was posted", show(p))
			}
		}
		for p, many := range owed {
			if many != 0 {
				t.Fatalf("%s was posted %d times more than it was taken", p, many)
			}
		}
	}
}

func told(n *datagram.Net) []string {
	var l []string
	for _, p := range n.All() {
		l = append(l, show(p))
	}
	return l
}
