package codec

import (
	"counterpane/api"
	"counterpane/named"
)

// reader takes things off the bytes that are left. Where one is not there it takes something else, or less: that shows when what was read is made again, and is not the same.
type reader struct{ rest []byte }

func (r *reader) number() int {
	n := 0
	for i, c := range r.rest {
		if c == mark {
			r.rest = r.rest[i+1:]
			return n
		}
		// No bundle or message has a greater number: what is counted has bytes of its own, and kinds and errors are small.
		if c < '0' || c > '9' || n > api.MaxBundle {
			goto none
		}
		n = 10*n + int(c-'0')
	}
none:
	r.rest = nil
	return 0
}

func (r *reader) text() []byte {
	// The number is taken off in a statement of its own: in one with what is left behind it, Go leaves open which is read first.
	n := r.number()
	b := r.rest[:min(n, len(r.rest))]
	r.rest = r.rest[len(b):]
	return b
}

func (r *reader) list() []string {
	var l []string
	for range r.number() {
		// The number may be far greater than what is left.
		if len(r.rest) == 0 {
			break
		}
		l = append(l, string(r.text()))
	}
	return l
}

func (r *reader) bundle() []api.Patch {
	var l []api.Patch
	for range r.number() {
		p, e := named.Get(r.text())
		if e != api.OK {
			break
		}
		l = append(l, p)
	}
	return l
}

func (r *reader) message() api.Msg {
	var m api.Msg
	m.Kind = r.number()
	m.Names = r.list()
	m.Have = r.list()
	m.Err = api.Errno(r.number())
	m.Patches = r.bundle()
	return m
}
