package codec

import (
	"strconv"

	"counterpane/api"
)

// mark ends a number.
const mark = ':'

// withNumber has a number behind b.
func withNumber(b []byte, n int) []byte {
	return append(strconv.AppendInt(b, int64(n), 10), mark)
}

// withText has a text behind b.
func withText(b []byte, s string) []byte {
	return append(withNumber(b, len(s)), s...)
}

// withList has a list behind b.
func withList(b []byte, l []string) []byte {
	b = withNumber(b, len(l))
	for _, s := range l {
		b = withText(b, s)
	}
	return b
}

// short is b, if it is not longer than may be.
func short(b []byte) ([]byte, api.Errno) {
	if len(b) > api.MaxBundle {
		return nil, api.ErrTooMany
	}
	return b, api.OK
}
