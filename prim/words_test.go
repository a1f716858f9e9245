package prim_test

import (
	"fmt"
	"regexp"
	"slices"
	"strings"

	"counterpane/api"
)

// What the chapters say, told here once more, without the packages that are built of it.
var (
	pathForm  = regexp.MustCompile(`\A[a-z0-9._-]{1,16}(/[a-z0-9._-]{1,16}){0,7}\z`)
	tokenForm = regexp.MustCompile(`\A[a-zA-Z0-9_]+\z`)
	tokens    = regexp.MustCompile(`[a-zA-Z0-9_]+`)
)

func dir(p string) api.Entry { return api.Entry{Path: p, Kind: api.KindDir} }

func text(p string, l ...string) api.Entry {
	return api.Entry{Path: p, Kind: api.KindText, Lines: l}
}

func data(p, b string) api.Entry { return api.Entry{Path: p, Kind: api.KindData, Data: b} }

// plain is a patch of a kind that names nothing but a path.
func plain(kind int, p string) api.Prim { return api.Prim{Kind: kind, Path: p} }

func linesOf(p string, at int, old, now []string) api.Prim {
	return api.Prim{Kind: api.Lines, Path: p, At: at, Old: old, New: now}
}

func token(p, from, to string) api.Prim {
	return api.Prim{Kind: api.Token, Path: p, From: from, To: to}
}

func bytesOf(p, from, to string) api.Prim {
	return api.Prim{Kind: api.Bytes, Path: p, From: from, To: to}
}

func moved(p, to string) api.Prim { return api.Prim{Kind: api.Move, Path: p, To: to} }

func rightPath(p string) bool {
	parts := strings.Split(p, "/")
	return pathForm.MatchString(p) && !slices.Contains(parts, ".") && !slices.Contains(parts, "..")
}

func rightLines(l []string) bool { return !strings.Contains(strings.Join(l, ""), "\n") }

func within(p, q string) bool { return p == q || strings.HasPrefix(p, q+"/") }

func apart(p, q string) bool { return !within(p, q) && !within(q, p) }

// lies is what lies at a path, or nil.
func lies(l []api.Entry, at string) *api.Entry {
	for i := range l {
		if l[i].Path == at {
			return &l[i]
		}
	}
	return nil
}

// treeByWords is layer 7's section 'Types'.
func treeByWords(l []api.Entry) bool {
	right := len(l) <= api.MaxEntries
	for i, x := range l {
		right = right && rightPath(x.Path) && x.Kind >= 1 && x.Kind <= 3
		right = right && (i == 0 || l[i-1].Path < x.Path) && rightLines(x.Lines)
		right = right && (len(x.Lines) == 0 || x.Kind == 2) && (len(x.Data) == 0 || x.Kind == 3)
		if at := strings.LastIndexByte(x.Path, '/'); right && at >= 0 {
			in := lies(l, x.Path[:at])
			right = in != nil && in.Kind == 1
		}
	}
	return right
}

// rightByWords is the chapter's section 'Types', word by word: a patch of each kind without the fields that it names has none.
func rightByWords(p api.Prim) bool {
	rest := p
	is := false
	switch p.Kind {
	case 1, 2, 3, 4, 5, 6:
		is = true
	case 7:
		rest.At, rest.Old, rest.New = 0, nil, nil
		is = 0 <= p.At && p.At <= 1<<30 && rightLines(p.Old) && rightLines(p.New) && !(len(p.Old) == 0 && len(p.New) == 0)
	case 8:
		rest.From, rest.To = "", ""
		is = tokenForm.MatchString(p.From) && tokenForm.MatchString(p.To) && p.From != p.To
	case 9:
		rest.From, rest.To = "", ""
		is = p.From != p.To
	case 10:
		rest.To = ""
		is = rightPath(p.To) && apart(p.To, p.Path)
	}
	return is && rightPath(p.Path) && rest.To == "" && rest.From == "" && rest.At == 0 && len(rest.Old) == 0 && len(rest.New) == 0
}

// kindOf is the kind of thing that each kind of patch is of; a Move is of any.
func kindOf(p api.Prim) int { return [...]int{0, 1, 1, 2, 2, 3, 3, 2, 2, 3, 0}[p.Kind] }

// comesByWords is what AddDir says of a path at which something is to come to lie.
func comesByWords(l []api.Entry, at string) api.Errno {
	if lies(l, at) != nil {
		return api.ErrThere
	}
	if cut := strings.LastIndexByte(at, '/'); cut >= 0 {
		in := lies(l, at[:cut])
		if in == nil {
			return api.ErrGone
		}
		if in.Kind != 1 {
			return api.ErrKind
		}
	}
	return api.OK
}

// byPath are the things by rising paths.
func byPath(l []api.Entry) []api.Entry {
	slices.SortFunc(l, func(x, y api.Entry) int { return strings.Compare(x.Path, y.Path) })
	return l
}

// applyByWords is H1's Apply.
func applyByWords(l []api.Entry, p api.Prim) ([]api.Entry, api.Errno) {
	if !treeByWords(l) || !rightByWords(p) {
		return nil, api.ErrArg
	}
	m := copyOf(l)
	x := lies(m, p.Path)
	switch p.Kind {
	case 1, 3, 5:
		if e := comesByWords(l, p.Path); e != api.OK {
			return nil, e
		}
		if len(l) == 1024 {
			return nil, api.ErrTooMany
		}
		return byPath(append(m, api.Entry{Path: p.Path, Kind: kindOf(p)})), api.OK
	case 10:
		return moveByWords(m, p)
	}
	if x == nil {
		return nil, api.ErrGone
	}
	if x.Kind != kindOf(p) {
		return nil, api.ErrKind
	}
	fits := false
	switch p.Kind {
	case 2, 4, 6:
		fits = len(x.Lines) == 0 && x.Data == "" && !slices.ContainsFunc(l, func(y api.Entry) bool { return strings.HasPrefix(y.Path, p.Path+"/") })
		m = slices.DeleteFunc(m, func(y api.Entry) bool { return y.Path == p.Path })
	case 7:
		x.Lines, fits = hunkByWords(x.Lines, p)
	case 8:
		x.Lines, fits = tokenByWords(x.Lines, p)
	case 9:
		fits, x.Data = x.Data == p.From, p.To
	}
	if !fits {
		return nil, api.ErrSame
	}
	return m, api.OK
}

func moveByWords(m []api.Entry, p api.Prim) ([]api.Entry, api.Errno) {
	if lies(m, p.Path) == nil {
		return nil, api.ErrGone
	}
	if e := comesByWords(m, p.To); e != api.OK {
		return nil, e
	}
	for i, x := range m {
		if !within(x.Path, p.Path) {
			continue
		}
		m[i].Path = p.To + x.Path[len(p.Path):]
		if !rightPath(m[i].Path) {
			return nil, api.ErrPath
		}
	}
	return byPath(m), api.OK
}

// hunkByWords is layer 6's F1.
func hunkByWords(l []string, p api.Prim) ([]string, bool) {
	var made []string
	for k, line := range p.Old {
		if p.At+k >= len(l) || l[p.At+k] != line {
			return nil, false
		}
	}
	for k := range len(l) + 1 {
		if k == p.At {
			made = append(made, p.New...)
		}
		if k < len(l) && (k < p.At || k >= p.At+len(p.Old)) {
			made = append(made, l[k])
		}
	}
	return made, p.At <= len(l)
}

// tokenByWords takes tokens as long as they go, as a regular expression does.
func tokenByWords(l []string, p api.Prim) ([]string, bool) {
	var made []string
	for _, line := range l {
		if slices.Contains(tokens.FindAllString(line, -1), p.To) {
			return nil, false
		}
		made = append(made, tokens.ReplaceAllStringFunc(line, func(s string) string {
			if s == p.From {
				return p.To
			}
			return s
		}))
	}
	return made, true
}

// allByWords is H2.
func allByWords(l []api.Entry, ps []api.Prim) ([]api.Entry, api.Errno, int) {
	if !treeByWords(l) {
		return nil, api.ErrArg, 0
	}
	for place, p := range ps {
		m, e := applyByWords(l, p)
		if e != api.OK {
			return nil, e, place
		}
		l = m
	}
	return l, api.OK, 0
}

func alikeThing(x, y api.Entry) bool {
	return x.Path == y.Path && x.Kind == y.Kind && x.Data == y.Data && slices.Equal(x.Lines, y.Lines)
}

func alike(l, m []api.Entry) bool { return slices.EqualFunc(l, m, alikeThing) }

// copyOf shares nothing with l.
func copyOf(l []api.Entry) []api.Entry {
	m := slices.Clone(l)
	for i := range m {
		m[i].Lines = slices.Clone(m[i].Lines)
	}
	return m
}

// show tells something, at least its beginning.
func show(what any) string { return fmt.Sprintf("%.300s", fmt.Sprintf("%+v", what)) }
