package codec_test

import (
	"fmt"
	"regexp"
	"slices"
	"strings"
	"testing"

	"counterpane/api"
	"counterpane/codec"
)

// eachRow tells all rows of up to so many of those pieces.
func eachRow(pieces []string, most int, tell func(s string)) {
	var row func(s string, more int)
	row = func(s string, more int) {
		tell(s)
		if more == 0 {
			return
		}
		for _, piece := range pieces {
			row(s+piece, more-1)
		}
	}
	row("", most)
}

// TestShortBytes has all short rows of a few bytes, and those behind what messages begin with.
func TestShortBytes(t *testing.T) {
	seen := map[api.Errno]int{}
	bytes := strings.Split("0123:a", "")
	eachRow(bytes, 6, func(s string) {
		seen[getBundle(t, []byte(s))]++
		for _, ahead := range words("", "1:", "1:0:0:", "1:1:1:a", "2:0:0:", "2:0:0:0:", "3:0:0:") {
			seen[get(t, []byte(ahead+s))]++
		}
	})
	if seen[api.OK] < 10 || seen[api.ErrCorrupt] < 100000 {
		t.Errorf("seen were %v", seen)
	}
}

// TestShortRows has all short rows of what bundles and messages are made of.
func TestShortRows(t *testing.T) {
	seen := map[string]int{}
	eachRow(words("0:", "1:", "2:", "3:", "7:1:a0:0:", "7:1:b0:0:", "10:1:a1:1:b0:", "7:1:A0:0:", "6:1:a0:0", "07:1:a0:0:", "a"), 4, func(s string) {
		seen[fmt.Sprintf("bundle %d", getBundle(t, []byte(s)))]++
		for _, ahead := range words("1:0:0:0:", "2:0:0:0:", "3:0:0:7:") {
			seen[fmt.Sprintf("message %s%d", ahead, get(t, []byte(ahead+s)))]++
		}
	})
	eachRow(words("0:", "1:", "2:", "3:", "1:a", "1:b", "01:", "1001:", "7:1:a0:0:"), 6, func(s string) {
		seen[fmt.Sprintf("row %d", get(t, []byte(s)))]++
	})
	for what, least := range map[string]int{"bundle 0": 5, "bundle 3": 10000, "message 1:0:0:0:0": 1, "message 1:0:0:0:3": 10000, "message 2:0:0:0:0": 5, "message 2:0:0:0:3": 10000, "message 3:0:0:7:0": 1, "message 3:0:0:7:3": 10000, "row 0": 10, "row 3": 100000} {
		if seen[what] < least {
			t.Errorf("%q was seen %d times", what, seen[what])
		}
	}
}

// wrongForms are what may be written for the number n, but makes no bundle and no message.
func wrongForms(n string) []string {
	return []string{
		"", n, "0" + n + ":", "00" + n + ":", "+" + n + ":", "-" + n + ":", " " + n + ":", n + " :", n + "::", ":" + n + ":", n + ";", n + ".0:", n + "e0:", "0x" + n + ":", "_" + n + ":", n + "_:", ":", "a:", "/:", ";:", "٣:", "\xff:", "-:", "+:", " :", "/" + n + ":", ":" + n, n + "\x00:",
		"32768:", "32769:", "65536:", "65537:", "327680:", "327687:", "4294967296:", "4294967297:", "9223372036854775807:", "9223372036854775808:", "18446744073709551615:", "18446744073709551616:", "18446744073709551617:", "18446744073709551623:", "36893488147419103239:",
		strings.Repeat("9", 1000) + ":", strings.Repeat("0", 1000) + n + ":", "1" + strings.Repeat("0", 1000) + ":",
	}
}

// TestNumbers has forms of numbers that are none, wherever a number stands.
func TestNumbers(t *testing.T) {
	plainly := strings.NewReplacer("{", "", "}", ":")
	for whole, read := range map[string]func(b []byte) api.Errno{
		"{0}":                           bundleError,
		"{1}{7}{1}a{0}{0}":              bundleError,
		"{2}{7}{1}a{0}{0}{7}{1}b{0}{0}": bundleError,
		"{1}{2}{1}a{1}b{1}{1}c{0}{0}":   messageError,
		"{1}{0}{0}{0}{0}":               messageError,
		"{2}{0}{0}{0}{1}{7}{1}a{0}{0}":  messageError,
		"{3}{0}{0}{7}{0}":               messageError,
	} {
		if e := read([]byte(plainly.Replace(whole))); e != api.OK {
			t.Fatalf("%s is %d", whole, e)
		}
		for at := range len(whole) {
			if whole[at] != '{' {
				continue
			}
			ahead, behind := plainly.Replace(whole[:at]), plainly.Replace(whole[at+3:])
			for _, form := range wrongForms(whole[at+1 : at+2]) {
				for _, s := range words(ahead+form+behind, ahead+form) {
					if e := read([]byte(s)); e != api.ErrCorrupt {
						t.Errorf("%.300q is %d", s, e)
					}
				}
			}
		}
	}
}

func bundleError(b []byte) api.Errno {
	_, e := codec.GetBundle(b)
	return e
}

func messageError(b []byte) api.Errno {
	_, e := codec.Get(b)
	return e
}

// TestTooMuch: numbers that are far greater than what is behind them are gone after no further than that.
func TestTooMuch(t *testing.T) {
	for _, most := range words("9223372036854775807:", "32768:", "32767:", "300000:") {
		for _, s := range words("", "7:1:a0:0:", "7:1:a0:0:7:1:b0:0:", "a", "0:", most, most+most+most) {
			corruptBundle(t, []byte(most+s))
			corruptBundle(t, []byte("1:"+most+s))
			for _, ahead := range words("", "1:", "1:0:", "1:0:0:", "1:0:0:0:", "2:0:0:0:", "2:0:0:0:1:", "3:0:0:", "1:1:", "1:0:1:") {
				corrupt(t, []byte(ahead+most+s))
			}
		}
	}
	for _, s := range []string{strings.Repeat("9", 1<<22), strings.Repeat("0", 1<<22), strings.Repeat(":", 1<<20), strings.Repeat("1:", 1<<20), strings.Repeat("0:", 1<<20), "300000:" + strings.Repeat("0:", 300000), "300000:" + strings.Repeat("7:1:a0:0:", 300000)} {
		corruptBundle(t, []byte(s))
		corruptBundle(t, []byte("1:"+s))
		for _, ahead := range words("", "1:", "1:0:", "1:0:0:", "1:0:0:0:", "2:0:0:0:", "3:0:0:7:") {
			corrupt(t, []byte(ahead+s))
		}
	}
}

// TestPastTheEnd: numbers of texts that are a little greater than what is left behind them; with the number itself there would be enough.
func TestPastTheEnd(t *testing.T) {
	number := regexp.MustCompile(`[0-9]+:`)
	wrong := 0
	for _, s := range words("1:7:1:a0:0:", "2:7:1:a0:0:7:1:b0:0:", "1:10:1:a1:1:b0:", "1:1:1:a0:0:0:", "1:2:1:a1:b1:1:c0:0:", "1:0:1:2:ab0:0:", "2:0:0:0:1:7:1:a0:0:", "1:1:ab", "1:1:a", "1:1:1:a", "1:0:1:1:a", "2:0:0:0:1:7:1:a0", "1:0:", "2:0:4:abcd") {
		for _, at := range number.FindAllStringIndex(s, -1) {
			left := len(s) - at[1]
			for n := range 12 {
				text := []byte(fmt.Sprint(s[:at[0]], left+n, ":", s[at[1]:]))
				for _, e := range []api.Errno{getBundle(t, text), get(t, text)} {
					if e != api.OK {
						wrong++
					}
				}
			}
		}
	}
	if wrong < 1000 {
		t.Errorf("only %d were wrong", wrong)
	}
	for _, s := range words("1:3:ab", "1:2:a", "1:1:", "2:0:4:abc") {
		corruptBundle(t, []byte(s))
	}
	for _, s := range words("1:1:3:ab", "1:0:1:2:a", "2:0:0:0:1:3:ab") {
		corrupt(t, []byte(s))
	}
}

// cutAndMore is P17.3 of a bundle's bytes, or of a message's: none is what is cut, or has more behind, or a byte more ahead.
func cutAndMore(t *testing.T, b []byte, none func(t *testing.T, b []byte)) {
	t.Helper()
	for n := range len(b) {
		none(t, b[:n:n])
		// What is cut off stands in its spare room.
		none(t, b[:n])
	}
	for c := range 256 {
		none(t, append(b[:len(b):len(b)], byte(c)))
		none(t, append([]byte{byte(c)}, b...))
	}
	for _, more := range [][]byte{b, []byte("0:"), []byte("1:a"), []byte("7:1:a0:0:"), []byte("1:7:1:a0:0:"), []byte("1:0:0:0:0:")} {
		none(t, slices.Concat(b, more))
	}
}
