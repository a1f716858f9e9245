package tree_test

import (
	"math/rand"
	"slices"
	"strconv"
	"strings"
	"testing"

	"counterpane/api"
	"counterpane/disk"
	"counterpane/tree"
)

// row is a line of a directory, of what is kept of the thing.
func row(kind int, part, kept string) string {
	return strconv.Itoa(kind) + " " + part + " " + nameOf(kept) + "\n"
}

// loadByWords is G3, of a disk that has these files, with its own stack instead of calls within calls.
func loadByWords(files map[string]string, name string) ([]api.Entry, api.Errno) {
	get := func(name string) (string, api.Errno) {
		if len(name) != 64 || strings.Trim(name, "0123456789abcdef") != "" {
			return "", api.ErrArg
		}
		b, there := files[fileOf(name)]
		if !there {
			return "", api.ErrNone
		}
		if nameOf(b) != name {
			return "", api.ErrCorrupt
		}
		return b, api.OK
	}
	type open struct {
		rows  []string
		ahead string
		deep  int
	}
	var stack []open
	enter := func(name, ahead string, deep int) api.Errno {
		b, e := get(name)
		if e != api.OK {
			return e
		}
		if b == "" || b[0] != 'd' || len(b) > 1 && b[len(b)-1] != '\n' || deep > 8 {
			return api.ErrCorrupt
		}
		rows := strings.Split(b[1:], "\n")
		stack = append(stack, open{rows[:len(rows)-1], ahead, deep})
		return api.OK
	}
	var l []api.Entry
	if e := enter(name, "", 0); e != api.OK {
		return nil, e
	}
	for len(stack) > 0 {
		at := &stack[len(stack)-1]
		if len(at.rows) == 0 {
			stack = stack[:len(stack)-1]
			continue
		}
		r := at.rows[0]
		at.rows = at.rows[1:]
		if len(r) < 68 || !strings.Contains("123", r[:1]) || r[1] != ' ' || r[len(r)-65] != ' ' || len(l) >= 1024 {
			return nil, api.ErrCorrupt
		}
		x := api.Entry{Path: at.ahead + r[2:len(r)-65], Kind: int(r[0]) - '0'}
		of := r[len(r)-64:]
		if x.Kind == 1 {
			l = append(l, x)
			if e := enter(of, x.Path+"/", at.deep+1); e != api.OK {
				return nil, e
			}
			continue
		}
		b, e := get(of)
		if e != api.OK {
			return nil, e
		}
		if b == "" || b[0] != " dtb"[x.Kind] || x.Kind == 2 && len(b) > 1 && b[len(b)-1] != '\n' {
			return nil, api.ErrCorrupt
		}
		if x.Data = b[1:]; x.Kind == 2 {
			x.Lines, x.Data = strings.Split(b[1:], "\n"), ""
			x.Lines = x.Lines[:len(x.Lines)-1]
		}
		l = append(l, x)
	}
	slices.SortStableFunc(l, func(x, y api.Entry) int { return strings.Compare(x.Path, y.Path) })
	if !rightByWords(l) || treeName(l) != name {
		return nil, api.ErrCorrupt
	}
	return l, api.OK
}

func TestLoadRefusesWhatIsNoName(t *testing.T) {
	d := holding(t, objects("d")...)
	dead := holding(t, objects("d")...)
	dead.Fuse(0)
	dead.Sync()
	n := nameOf("d")
	for _, name := range []string{"", "d", n[:63], n + "0", n[:32], fileOf(n), strings.ToUpper(n), n[:63] + "g", " " + n[1:], n[:63] + "\n", strings.Repeat("é", 32)} {
		wantLoad(t, "no name", d, name, nil, api.ErrArg)
		wantLoad(t, "no name, without power", dead, name, nil, api.ErrArg)
	}
	wantLoad(t, "it is there", d, n, nil, api.OK)
	wantLoad(t, "without power", dead, n, nil, api.ErrDown)
	wantLoad(t, "not there", d, nameOf("d2"), nil, api.ErrNone)
	wantLoad(t, "nothing is there", disk.New(0), n, nil, api.ErrNone)
	wantLoad(t, "other bytes", holding(t, api.File{Name: fileOf(n), Data: []byte("b")}), n, nil, api.ErrCorrupt)
	wantLoad(t, "another name that begins so", d, n[:63]+"0", nil, api.ErrCorrupt)
}

// TestForgedTops: bytes that are a tree, and bytes that nobody keeps so. All are on the disk with a text `tx`, data `bx` and directories.
func TestForgedTops(t *testing.T) {
	tx, bx, sub := "tx\n", "bx", "d"+row(2, "t", "tx\n")
	none, noName, great := nameOf("none"), strings.Repeat("g", 64), strings.ToUpper(nameOf(tx))
	cases := map[string]struct {
		top    string
		l      []api.Entry
		wanted api.Errno
	}{
		"empty":         {"d", nil, api.OK},
		"all kinds":     {"d" + row(1, "a", sub) + row(3, "a-", bx) + row(1, "b", "d") + row(2, "c", tx), []api.Entry{dir("a"), data("a-", "x"), text("a/t", "x"), dir("b"), text("c", "x")}, api.OK},
		"empty things":  {"d" + row(2, "a", "t") + row(3, "b", "b"), []api.Entry{text("a"), data("b", "")}, api.OK},
		"data of lines": {"d" + row(3, "a", "bx\n"), []api.Entry{data("a", "x\n")}, api.OK},
		"alike things":  {"d" + row(1, "a", sub) + row(1, "b", sub), []api.Entry{dir("a"), text("a/t", "x"), dir("b"), text("b/t", "x")}, api.OK},

		"nothing":          {"", nil, api.ErrCorrupt},
		"a text":           {"tx\n", nil, api.ErrCorrupt},
		"data":             {"bx", nil, api.ErrCorrupt},
		"a great letter":   {"D", nil, api.ErrCorrupt},
		"a byte ahead":     {" d" + row(2, "a", tx), nil, api.ErrCorrupt},
		"no mark":          {row(2, "a", tx), nil, api.ErrCorrupt},
		"no end":           {strings.TrimSuffix("d"+row(2, "a", tx), "\n"), nil, api.ErrCorrupt},
		"more behind":      {"d" + row(2, "a", tx) + "x", nil, api.ErrCorrupt},
		"no lines, none":   {"d" + row(2, "a", "none") + "x", nil, api.ErrCorrupt},
		"an empty line":    {"d\n", nil, api.ErrCorrupt},
		"one behind":       {"d" + row(2, "a", tx) + "\n", nil, api.ErrCorrupt},
		"kind 0":           {"d" + row(0, "a", tx), nil, api.ErrCorrupt},
		"kind 4":           {"d" + row(4, "a", tx), nil, api.ErrCorrupt},
		"kind 9":           {"d" + row(9, "a", tx), nil, api.ErrCorrupt},
		"kind 02":          {"d0" + row(2, "a", tx), nil, api.ErrCorrupt},
		"kind 22":          {"d" + row(22, "a", tx), nil, api.ErrCorrupt},
		"kind -1":          {"d" + row(-1, "a", tx), nil, api.ErrCorrupt},
		"no kind":          {"d a " + nameOf(tx) + "\n", nil, api.ErrCorrupt},
		"kind /":           {"d/ a " + nameOf(tx) + "\n", nil, api.ErrCorrupt},
		"no kind, none":    {"dx a " + none + "\n", nil, api.ErrCorrupt},
		"no blank":         {"d2_a " + nameOf(tx) + "\n", nil, api.ErrCorrupt},
		"no blank, none":   {"d2_a " + none + "\n", nil, api.ErrCorrupt},
		"no second blank":  {"d2 a_" + none + "\n", nil, api.ErrCorrupt},
		"a tab":            {"d2\ta\t" + none + "\n", nil, api.ErrCorrupt},
		"no part":          {"d2  " + none + "\n", nil, api.ErrCorrupt},
		"no part at all":   {"d2 " + none + "\n", nil, api.ErrCorrupt},
		"a name alone":     {"d" + none + "\n", nil, api.ErrCorrupt},
		"a kind alone":     {"d2\n", nil, api.ErrCorrupt},
		"a short name":     {"d2 a " + none[1:] + "\n", nil, api.ErrCorrupt},
		"a shorter part":   {"d2 abc " + none[1:] + "\n", nil, api.ErrCorrupt},
		"a long name":      {"d2 a 0" + none + "\n", nil, api.ErrCorrupt},
		"a byte 13":        {"d2 a " + none + "\r\n", nil, api.ErrCorrupt},
		"two of a line":    {"d2 a " + none + " 2 b " + none + "\n", nil, api.ErrNone},
		"two of them, all": {"d2 a " + none + " 2 b " + nameOf(tx) + "\n", nil, api.ErrCorrupt},

		"no such text":         {"d2 a " + none + "\n", nil, api.ErrNone},
		"no such data":         {"d3 a " + none + "\n", nil, api.ErrNone},
		"no such directory":    {"d1 a " + none + "\n", nil, api.ErrNone},
		"a text of no name":    {"d2 a " + noName + "\n", nil, api.ErrArg},
		"data of no name":      {"d3 a " + noName + "\n", nil, api.ErrArg},
		"a dir of no name":     {"d1 a " + noName + "\n", nil, api.ErrArg},
		"a name in great":      {"d2 a " + great + "\n", nil, api.ErrArg},
		"other bytes":          {"d2 a " + nameOf("clash") + "\n", nil, api.ErrCorrupt},
		"other bytes of data":  {"d3 a " + nameOf("clash") + "\n", nil, api.ErrCorrupt},
		"other bytes of a dir": {"d1 a " + nameOf("clash") + "\n", nil, api.ErrCorrupt},
		"a text as data":       {"d" + row(3, "a", tx), nil, api.ErrCorrupt},
		"a text as a dir":      {"d" + row(1, "a", tx), nil, api.ErrCorrupt},
		"data as a text":       {"d" + row(2, "a", "bx\n"), nil, api.ErrCorrupt},
		"data as a dir":        {"d" + row(1, "a", bx), nil, api.ErrCorrupt},
		"a dir as a text":      {"d" + row(2, "a", "d"), nil, api.ErrCorrupt},
		"a dir as data":        {"d" + row(3, "a", "d"), nil, api.ErrCorrupt},
		"an empty text file":   {"d" + row(2, "a", ""), nil, api.ErrCorrupt},
		"an empty data file":   {"d" + row(3, "a", ""), nil, api.ErrCorrupt},
		"an empty dir file":    {"d" + row(1, "a", ""), nil, api.ErrCorrupt},
		"a text without end":   {"d" + row(2, "a", "tx"), nil, api.ErrCorrupt},
		"a text's open end":    {"d" + row(2, "a", "tx\ny"), nil, api.ErrCorrupt},
		"a dir without end":    {"d" + row(1, "a", "dx"), nil, api.ErrCorrupt},
		"a dir of a bad line":  {"d" + row(1, "a", "dx\n"), nil, api.ErrCorrupt},

		"falling":               {"d" + row(2, "b", tx) + row(2, "a", tx), nil, api.ErrCorrupt},
		"falling, behind a dir": {"d" + row(3, "a-", bx) + row(1, "a", sub), nil, api.ErrCorrupt},
		"twice":                 {"d" + row(2, "a", tx) + row(2, "a", tx), nil, api.ErrCorrupt},
		"a slash":               {"d" + row(1, "a", "d") + row(2, "a/b", tx), nil, api.ErrCorrupt},
		"a slash, none":         {"d" + row(1, "a", "d") + row(2, "a/b", "none"), nil, api.ErrNone},
		"a slash alone":         {"d" + row(2, "/", tx), nil, api.ErrCorrupt},
		"a slash behind":        {"d" + row(1, "a/", sub), nil, api.ErrCorrupt},
		"a blank":               {"d" + row(2, "a b", tx), nil, api.ErrCorrupt},
		"a blank, none":         {"d" + row(2, "a b", "none"), nil, api.ErrNone},
		"a blank alone":         {"d" + row(2, " ", tx), nil, api.ErrCorrupt},
		"a blank alone, none":   {"d" + row(2, " ", "none"), nil, api.ErrNone},
		"a byte of no rune":     {"d" + row(3, "\xff", "none"), nil, api.ErrNone},
		"two dots":              {"d" + row(2, "..", tx), nil, api.ErrCorrupt},
		"two dots of a dir":     {"d" + row(1, "..", sub), nil, api.ErrCorrupt},
		"a long part":           {"d" + row(2, strings.Repeat("a", 17), tx), nil, api.ErrCorrupt},
		"a long part, none":     {"d" + row(2, strings.Repeat("a", 60000), "none"), nil, api.ErrNone},

		"none ahead of a bad line":    {"d" + row(2, "a", "none") + "x\n", nil, api.ErrNone},
		"a bad line ahead of none":    {"dx\n" + row(2, "a", "none"), nil, api.ErrCorrupt},
		"kind 0 ahead of none":        {"d" + row(0, "a", tx) + row(2, "b", "none"), nil, api.ErrCorrupt},
		"kind 4 ahead of none":        {"d" + row(4, "a", tx) + row(2, "b", "none"), nil, api.ErrCorrupt},
		"no name ahead of none":       {"d2 a " + noName + "\n" + row(2, "b", "none"), nil, api.ErrArg},
		"none ahead of no name":       {"d" + row(2, "a", "none") + "2 b " + noName + "\n", nil, api.ErrNone},
		"none below ahead of no name": {"d" + row(1, "a", "d"+row(2, "t", "none")) + "2 b " + noName + "\n", nil, api.ErrNone},
		"wrong paths ahead of none":   {"d" + row(2, "b", tx) + row(2, "b", tx) + row(3, "A", bx) + row(1, "a", "none"), nil, api.ErrNone},
		"a text as data, then none":   {"d" + row(3, "a", tx) + row(3, "b", "none"), nil, api.ErrCorrupt},
	}
	clash := api.File{Name: fileOf(nameOf("clash")), Data: []byte("b")}
	for what, c := range cases {
		kept := []string{tx, bx, sub, "d", "t", "b", "bx\n", "", "tx", "tx\ny", "dx", "dx\n", "d" + row(2, "t", "none"), c.top}
		d := holding(t, append(objects(kept...), clash)...)
		wantLoad(t, what, d, nameOf(c.top), c.l, c.wanted)
		// A directory is read as the tree itself is: below another one the same is wrong, or right.
		up := "d" + row(1, "up", c.top)
		d = holding(t, append(objects(append(kept, up)...), clash)...)
		var l []api.Entry
		if c.wanted == api.OK {
			l = append(l, dir("up"))
		}
		for _, x := range c.l {
			x.Path = "up/" + x.Path
			l = append(l, x)
		}
		slices.SortFunc(l, func(x, y api.Entry) int { return strings.Compare(x.Path, y.Path) })
		wantLoad(t, what+", below", d, nameOf(up), l, c.wanted)
	}
}

// below is what is kept of directories in one another, n of them with the tree itself, the last of which is that.
func below(n int, last string) []string {
	l := []string{last}
	for range n - 1 {
		l = append(l, "d"+row(1, "d", l[len(l)-1]))
	}
	return l
}

// TestDeep: a directory may be eight deep; one that is nine deep is asked for, but not read.
func TestDeep(t *testing.T) {
	const most = api.MaxDeep + 1
	cases := map[string]struct {
		n      int
		last   string
		l      []api.Entry
		wanted api.Errno
	}{
		"as deep as may be":               {most, "d", chain(api.MaxDeep), api.OK},
		"a text as deep":                  {most - 1, "d" + row(2, "t", "tx\n"), chain(api.MaxDeep-1, text("t", "x")), api.OK},
		"a text deeper":                   {most, "d" + row(2, "t", "tx\n"), nil, api.ErrCorrupt},
		"data deeper":                     {most, "d" + row(3, "t", "bx"), nil, api.ErrCorrupt},
		"a text deeper, none":             {most, "d" + row(2, "t", "none"), nil, api.ErrNone},
		"a text deeper, of no name":       {most, "d2 t " + strings.Repeat("x", 64) + "\n", nil, api.ErrArg},
		"data deeper, none":               {most, "d" + row(3, "t", "none"), nil, api.ErrNone},
		"a directory deeper":              {most + 1, "d", nil, api.ErrCorrupt},
		"a directory deeper, none":        {most, "d" + row(1, "d", "none"), nil, api.ErrNone},
		"a directory deeper, of no name":  {most, "d1 d " + strings.Repeat("x", 64) + "\n", nil, api.ErrArg},
		"a directory deeper, with a text": {most + 1, "d" + row(2, "t", "none"), nil, api.ErrCorrupt},
		"much deeper":                     {400, "d", nil, api.ErrCorrupt},
		"much deeper, none at its end":    {400, "d" + row(1, "d", "none"), nil, api.ErrCorrupt},
	}
	for what, c := range cases {
		kept := below(c.n, c.last)
		d := holding(t, objects(append(kept, "tx\n", "bx")...)...)
		wantLoad(t, what, d, nameOf(kept[len(kept)-1]), c.l, c.wanted)
	}
}

// rows is n of empty texts, and what is behind them.
func rows(n int, more string) string {
	all := "d"
	for i := range n {
		all += row(2, strconv.Itoa(1000+i), "t")
	}
	return all + more
}

// TestCountsThings: MaxEntries may be read; ahead of one more it ends, whatever that is.
func TestCountsThings(t *testing.T) {
	noName := strings.Repeat("x", 64)
	one := rows(500, "")
	for what, c := range map[string]struct {
		two    string
		more   string
		wanted api.Errno
	}{
		"just so many":                    {rows(522, ""), "", api.OK},
		"one more":                        {rows(523, ""), "", api.ErrCorrupt},
		"one more behind":                 {rows(522, ""), row(2, "c", "t"), api.ErrCorrupt},
		"one more, none":                  {rows(522, ""), row(2, "c", "none"), api.ErrCorrupt},
		"one more, no name":               {rows(522, ""), "3 c " + noName + "\n", api.ErrCorrupt},
		"one more, no such dir":           {rows(522, ""), row(1, "c", "none"), api.ErrCorrupt},
		"one more below, none":            {rows(522, row(2, "c", "none")), "", api.ErrCorrupt},
		"the last, none":                  {rows(521, row(2, "c", "none")), "", api.ErrNone},
		"the last of no name":             {rows(521, ""), "3 c " + noName + "\n", api.ErrArg},
		"the last is a directory":         {rows(521, ""), row(1, "c", "d"), api.OK},
		"the last is one, with one":       {rows(521, ""), row(1, "c", rows(1, "")), api.ErrCorrupt},
		"the last is one, with none":      {rows(521, ""), row(1, "c", "d"+row(2, "x", "none")), api.ErrCorrupt},
		"the last is one, with a bad one": {rows(521, ""), row(1, "c", "none"), api.ErrNone},
	} {
		top := "d" + row(1, "a", one) + row(1, "b", c.two) + c.more
		d := holding(t, objects(one, c.two, top, "t", "d", rows(1, ""), "d"+row(2, "x", "none"))...)
		l, e := tree.Load(d, nameOf(top))
		if e != c.wanted || e == api.OK && (len(l) != api.MaxEntries || treeName(l) != nameOf(top)) || e != api.OK && len(l) != 0 {
			t.Errorf("%s: Load is %d things, %d", what, len(l), e)
		}
	}
}

// TestFewBytesOfMany: each directory has the one ahead of it many times; it ends.
func TestFewBytesOfMany(t *testing.T) {
	kept := []string{"d"}
	for range api.MaxDeep {
		next := "d"
		for i := range 900 {
			next += row(1, strconv.Itoa(1000+i), kept[len(kept)-1])
		}
		kept = append(kept, next)
	}
	d := holding(t, objects(kept...)...)
	for i, k := range kept {
		if l, e := tree.Load(d, nameOf(k)); i > 1 && (e != api.ErrCorrupt || len(l) != 0) || i < 2 && (e != api.OK || len(l) != 900*i) {
			t.Errorf("%d: Load is %d things, %d", i, len(l), e)
		}
	}
}

// TestLongParts: paths that are much too long for one are still no more than wrong.
func TestLongParts(t *testing.T) {
	kept := []string{rows(300, "")}
	for range api.MaxDeep {
		kept = append(kept, "d"+row(1, strings.Repeat("long", 16000), kept[len(kept)-1]))
	}
	d := holding(t, objects(append(kept, "t")...)...)
	wantLoad(t, "long", d, nameOf(kept[len(kept)-1]), nil, api.ErrCorrupt)
}

// forge is bytes of which some are what is kept of trees, and most nearly so.
func forge(r *rand.Rand) []string {
	kept := []string{"d", "t", "b", "tx\n", "bx", "tx", "", "d\n"}
	parts := []string{"a", "b", "c", "a-", "a.b", "a/b", "b/c", "A", "..", " ", "a b"}
	for range 12 {
		var lines []string
		for range r.Intn(5) {
			of := kept[r.Intn(len(kept))]
			kind := 1 + strings.Index("dtb", (of + "?")[:1])
			if kind == 0 || r.Intn(12) == 0 {
				kind = 1 + r.Intn(3)
			}
			part := parts[r.Intn(4)]
			if r.Intn(10) == 0 {
				part = parts[r.Intn(len(parts))]
			}
			line := row(kind, part, of)
			switch r.Intn(40) {
			case 0:
				line = row(kind, part, "none")
			case 1:
				line = strings.Replace(line, " ", "", 1)
			case 2:
				line = line[:len(line)-2] + "x\n"
			case 3:
				line = "0" + line
			}
			lines = append(lines, line)
		}
		if r.Intn(6) > 0 {
			slices.SortFunc(lines, func(x, y string) int { return strings.Compare(x[1:], y[1:]) })
		}
		next := "d" + strings.Join(lines, "")
		if r.Intn(30) == 0 {
			next = next[:len(next)-1]
		}
		kept = append(kept, next)
	}
	return kept
}

// TestForgedDisks holds Load against the chapter's words, on disks that nobody wrote so.
func TestForgedDisks(t *testing.T) {
	r := rand.New(rand.NewSource(11))
	seen := map[api.Errno]int{}
	full := 0
	for range 4000 {
		kept := forge(r)
		l := objects(kept...)
		if r.Intn(3) == 0 {
			l[r.Intn(len(l))].Data = []byte("d")
		}
		d := holding(t, l...)
		files := map[string]string{}
		for _, f := range l {
			files[f.Name] = string(f.Data)
		}
		for _, k := range kept {
			want, wanted := loadByWords(files, nameOf(k))
			got, e := tree.Load(d, nameOf(k))
			if e != wanted || !alike(got, want) {
				t.Fatalf("Load of %q is %s, %d; want %s, %d", k, show(got), e, show(want), wanted)
			}
			if seen[e]++; len(got) > 2 {
				full++
			}
		}
	}
	for _, e := range []api.Errno{api.OK, api.ErrArg, api.ErrNone, api.ErrCorrupt} {
		if seen[e] < 500 {
			t.Errorf("only %d were %d", seen[e], e)
		}
	}
	if full < 500 {
		t.Errorf("only %d were trees of three things or more", full)
	}
}

// TestFlippedBytes: of a tree that was saved, any file with any byte changed is found.
func TestFlippedBytes(t *testing.T) {
	d := roomy()
	name, _ := tree.Save(d, some())
	all := d.Files()
	for i := range all {
		for j := range all[i].Data {
			all[i].Data[j] ^= 1
			wantLoad(t, "flipped", holding(t, all...), name, nil, api.ErrCorrupt)
			all[i].Data[j] ^= 1
		}
		wantLoad(t, "gone", holding(t, slices.Delete(slices.Clone(all), i, i+1)...), name, nil, api.ErrNone)
	}
	wantLoad(t, "as it was", holding(t, all...), name, some(), api.OK)
}
