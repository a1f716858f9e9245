package named

import (
	"strconv"
	"strings"

	"counterpane/api"
)

// mark ends a number.
const mark = ':'

// writer puts numbers, texts and lists behind what it has.
type writer struct{ strings.Builder }

func (w *writer) number(n int) {
	w.WriteString(strconv.Itoa(n))
	w.WriteByte(mark)
}

func (w *writer) text(s string) {
	w.number(len(s))
	w.WriteString(s)
}

func (w *writer) list(l []string) {
	w.number(len(l))
	for _, s := range l {
		w.text(s)
	}
}

func (w *writer) prim(p api.Prim) {
	w.number(p.Kind)
	w.text(p.Path)
	w.text(p.To)
	w.text(p.From)
	w.number(p.At)
	w.list(p.Old)
	w.list(p.New)
}

func (w *writer) patch(p api.Patch) {
	w.text(p.Name)
	w.list(p.Deps)
	w.number(len(p.Body))
	for _, x := range p.Body {
		w.prim(x)
	}
}
