package named

import (
	"math"

	"counterpane/api"
)

// reader takes numbers, texts and lists off the bytes that are left; it is bad, and stays so, if one is not there.
type reader struct {
	rest []byte
	bad  bool
}

func (r *reader) number() int {
	n, i := 0, 0
	for ; i < len(r.rest) && r.rest[i] != mark; i++ {
		digit := int(r.rest[i]) - '0'
		if digit < 0 || digit > 9 || n > (math.MaxInt-digit)/10 {
			goto none
		}
		// Behind a digit 0 that is the first, no other may stand: a number has one form alone.
		if i > 0 && n == 0 {
			goto none
		}
		n = 10*n + digit
	}
	if i == 0 || i == len(r.rest) {
		goto none
	}
	r.rest = r.rest[i+1:]
	return n
none:
	r.bad = true
	return 0
}

func (r *reader) text() string {
	n := r.number()
	if n > len(r.rest) {
		r.bad = true
		return ""
	}
	s := string(r.rest[:n])
	r.rest = r.rest[n:]
	return s
}

// list takes off a number, and as many of what read takes off. No room is made ahead: the number may be far greater than what is left.
func list[T any](r *reader, read func() T) []T {
	var l []T
	n := r.number()
	for len(l) < n && !r.bad {
		l = append(l, read())
	}
	return l
}

func (r *reader) prim() api.Prim {
	var p api.Prim
	p.Kind = r.number()
	p.Path = r.text()
	p.To = r.text()
	p.From = r.text()
	p.At = r.number()
	p.Old = list(r, r.text)
	p.New = list(r, r.text)
	return p
}

func (r *reader) patch() api.Patch {
	var p api.Patch
	p.Name = r.text()
	p.Deps = list(r, r.text)
	p.Body = list(r, r.prim)
	return p
}
