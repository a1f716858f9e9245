package order_test

// sample is a package with statements of which those that say so, and no others, leave open what they do.
const sample = `package open

import (
	"slices"
	"strings"
)

type reader struct {
	rest []byte
	way  chan int
	in   map[int]int
}

type outer struct {
	*reader
	strings.Builder
	n int
}

func (r *reader) number() int {
	n := len(r.rest)
	r.rest = r.rest[1:]
	return n
}

func (r *reader) deep() int { return r.number() + 1 }

func (r *reader) pure() int { return len(r.rest) }

func (r *reader) fill() int {
	r.in[1] = 2
	return 3
}

func (r *reader) text() []byte {
	n := min(r.number(), len(r.rest)) // open
	b := r.rest[:n]
	n = r.number()
	b = r.rest[:min(n, len(r.rest))]
	b = r.rest[:r.number()] // open
	b = r.rest[r.pure():]
	b = append(b, r.rest[r.deep()]) // open
	r.rest = b[r.number():]
	return b
}

func (r *reader) asked() bool {
	if r.number() > 1 && len(r.rest) > 2 {
		return len(r.rest) > 3 || r.number() > 4
	}
	if len(r.rest) == r.number() { // open
		return false
	}
	if (r.number() > 1) == (len(r.rest) > 2 && r.pure() > 3) { // open
		return true
	}
	if (len(r.rest) > 2 && r.pure() > 3) == (r.number() > 1) {
		return true
	}
	return two(r.pure(), r.number()) > two(r.number(), r.pure())
}

func two(a, b int) int { return a + b }

func (r *reader) waits() int {
	a := len(r.way) + <-r.way // open
	b := two(len(r.way), 1) + <-r.way
	a, b = <-r.way, <-r.way
	r.way <- <-r.way
	return two(<-r.way, len(r.way)) + a + b // open
}

func (r *reader) items() int {
	a := r.in[1] + r.fill()       // open
	r.in[r.in[1]] = r.fill()      // open
	r.in[2] = r.fill()            // a place is read, what lies in it is not
	r.in[2] += r.fill()           // open
	b := two(len(r.in), r.fill()) // open
	return a + b
}

func (o *outer) promoted() int {
	a := o.number() + len(o.rest) // open
	a += o.n + o.number()
	return a
}

func (o *outer) count() int {
	o.n++
	return o.n
}

func (o *outer) counted() (int, int) {
	o.n = o.count()
	o.n += o.count()      // open
	return o.n, o.count() // open
}

func (o *outer) written() (int, int) {
	o.WriteString("a")
	n := 1
	change := func() int {
		n++
		return n
	}
	a := n + change() // open
	a = change() + change()
	a = two(n, change()) // open
	a = two(n, 1) + change()
	a = held(change) + n // open
	n = change()
	return a, o.count() + a
}

func held(f func() int) int { return f() }

func sorted(l []int) []int {
	slices.Sort(l)
	return l
}

func lists(l, k []int) int {
	a := l[0] + sorted(l)[0] // open
	a = k[0] + sorted(l)[0]
	a = len(sorted(l)) + len(l)
	l[sorted(k)[0]] = 1
	l[k[0]] = sorted(k)[0]           // open
	all := []int{l[0], sorted(l)[0]} // open
	all = append(all, sorted(all)...)
	return a + all[0]
}

type tree struct{ l, r *tree }

// again calls itself: what is its own is another one each time.
func again(n int) int {
	m := n
	m--
	if m < 0 {
		return 0
	}
	return m + again(m) + n
}

func (t *tree) walk() []int {
	var l []int
	var down func(t *tree) int
	down = func(t *tree) int {
		if t == nil {
			return 0
		}
		l = append(l, down(t.l)) // open
		n := down(t.r)
		l = append(l, n)
		return n
	}
	return append(l, down(t)) // open
}

func pointed(n int) int {
	set := func(p *int) int {
		*p = 2
		return 1
	}
	a := n + set(&n) // open
	return a
}
`
