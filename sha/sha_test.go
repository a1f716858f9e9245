package sha_test

import (
	"bytes"
	"crypto/sha256"
	"encoding/hex"
	"math/rand"
	"strings"
	"sync"
	"testing"

	"counterpane/sha"
)

// texts are sums that were worked out elsewhere: of SHA-256's own examples, and of the edges of its blocks.
var texts = []struct{ text, name string }{
	{"", "e3b0c44298fc1c149afbf4c8996fb92427ae41e4649b934ca495991b7852b855"},
	{"a", "ca978112ca1bbdcafac231b39a23dc4da786eff8147c4e72b9807785afee48bb"},
	{"abc", "ba7816bf8f01cfea414140de5dae2223b00361a396177a9cb410ff61f20015ad"},
	{"abcdbcdecdefdefgefghfghighijhijkijkljklmklmnlmnomnopnopq", "248d6a61d20638b8e5c026930c3e6039a33ce45964ff2167f6ecedd419db06c1"},
	{"abcdefghbcdefghicdefghijdefghijkefghijklfghijklmghijklmnhijklmnoijklmnopjklmnopqklmnopqrlmnopqrsmnopqrstnopqrstu", "cf5b16a778af8380036ce59e7b0492370b249b11e8f07a51afac45037afee9d1"},
	{strings.Repeat("a", 1000000), "cdc76e5c9914fb9281a1c7e284d73e67f1809a48a497200e046d39ccc7112cd0"},
}

func TestSumsThatAreKnown(t *testing.T) {
	for _, x := range texts {
		if got := sha.Name([]byte(x.text)); got != x.name {
			t.Errorf("Name of %d bytes is %s, not %s", len(x.text), got, x.name)
		}
	}
	if sha.Sum(nil) != sha.Sum([]byte{}) {
		t.Error("nil and empty differ")
	}
}

// holdAgainstLibrary fails if Sum or Name says of b otherwise than the library.
func holdAgainstLibrary(t *testing.T, b []byte) {
	t.Helper()
	want := sha256.Sum256(b)
	if got := sha.Sum(b); got != want {
		t.Fatalf("Sum of %d bytes is %x, not %x", len(b), got, want)
	}
	if got := sha.Name(b); got != hex.EncodeToString(want[:]) {
		t.Fatalf("Name of %d bytes is %s, not %x", len(b), got, want)
	}
}

// TestEveryLength goes past five blocks, so past each edge of the filling: 55, 56, 63, 64, 119, 120.
func TestEveryLength(t *testing.T) {
	r := rand.New(rand.NewSource(2))
	for n := range 5*64 + 2 {
		b := make([]byte, n)
		holdAgainstLibrary(t, b)
		holdAgainstLibrary(t, bytes.Repeat([]byte{255}, n))
		for range 8 {
			r.Read(b)
			holdAgainstLibrary(t, b)
		}
	}
}

func TestLongTexts(t *testing.T) {
	r := rand.New(rand.NewSource(3))
	for range 60 {
		b := make([]byte, r.Intn(1<<17))
		r.Read(b)
		holdAgainstLibrary(t, b)
	}
}

// TestLengthBeyond32Bits: of 2^29 bytes and more the length in bits needs its higher four bytes.
func TestLengthBeyond32Bits(t *testing.T) {
	if testing.Short() {
		t.Skip("long")
	}
	b := make([]byte, 1<<29+3)
	b[1<<28] = 1
	if got, want := sha.Sum(b), sha256.Sum256(b); got != want {
		t.Fatalf("Sum is %x, not %x", got, want)
	}
}

func TestArgumentAndItsSpareRoomStay(t *testing.T) {
	for n := range 130 {
		room := bytes.Repeat([]byte{7}, 300)
		sha.Sum(room[:n])
		sha.Name(room[:n])
		if !bytes.Equal(room, bytes.Repeat([]byte{7}, 300)) {
			t.Fatalf("changed by a sum of %d bytes", n)
		}
	}
}

func TestSumIsTheSameWhenever(t *testing.T) {
	r := rand.New(rand.NewSource(4))
	b := make([]byte, 200)
	r.Read(b)
	sum, name := sha.Sum(b), sha.Name(b)
	for n := range 100 {
		other := make([]byte, n)
		r.Read(other)
		sha.Sum(other)
		if sha.Sum(b) != sum || sha.Name(b) != name {
			t.Fatalf("another sum behind one of %d bytes", n)
		}
	}
	if sha.Sum(append([]byte(nil), b...)) != sum {
		t.Error("another sum of the same bytes elsewhere")
	}
	var all sync.WaitGroup
	for range 8 {
		all.Go(func() {
			for range 100 {
				if sha.Sum(b) != sum {
					t.Error("another sum beside others")
				}
			}
		})
	}
	all.Wait()
}

// TestSumIsTheCallersOwn: what a caller does with a sum, the next one does not see.
func TestSumIsTheCallersOwn(t *testing.T) {
	sum := sha.Sum([]byte("abc"))
	for i := range sum {
		sum[i] = 0
	}
	holdAgainstLibrary(t, []byte("abc"))
}

func TestNameHasItsSumsDigits(t *testing.T) {
	seen := map[rune]int{}
	for n := range 500 {
		b := []byte(strings.Repeat("x", n))
		sum, name := sha.Sum(b), sha.Name(b)
		back, err := hex.DecodeString(name)
		if err != nil || !bytes.Equal(back, sum[:]) || name != strings.ToLower(name) {
			t.Fatalf("name %s of sum %x", name, sum)
		}
		if !sha.Named(name) {
			t.Fatalf("%s is not named", name)
		}
		for _, c := range name {
			seen[c]++
		}
	}
	if len(seen) != 16 {
		t.Errorf("%d digits seen", len(seen))
	}
}

func TestNamed(t *testing.T) {
	zeros := strings.Repeat("0", 64)
	for s, want := range map[string]bool{
		zeros:                                 true,
		strings.Repeat("0123456789abcdef", 4): true,
		strings.Repeat("f", 64):               true,
		"":                                    false,
		"abc":                                 false,
		zeros[:63]:                            false,
		zeros + "0":                           false,
		zeros + zeros:                         false,
		zeros[:32]:                            false,
		strings.Repeat("A", 64):               false,
		strings.Repeat("é", 32):               false, // 64 bytes
		strings.Repeat("é", 64):               false,
		strings.Repeat("\xff", 64):            false,
		zeros[:62] + "é":                      false,
		" " + zeros[1:]:                       false,
		zeros[:63] + "\n":                     false,
		zeros + "\n":                          false,
		"0x" + zeros[2:]:                      false,
	} {
		if sha.Named(s) != want {
			t.Errorf("Named(%q) is %v", s, !want)
		}
	}
}

// TestNamedAtEveryByte: each byte at each place, alone among digits.
func TestNamedAtEveryByte(t *testing.T) {
	for at := range 64 {
		for c := range 256 {
			s := []byte(strings.Repeat("a", 64))
			s[at] = byte(c)
			want := strings.IndexByte("0123456789abcdef", byte(c)) >= 0
			if sha.Named(string(s)) != want {
				t.Fatalf("Named is %v with byte %d at %d", !want, c, at)
			}
		}
	}
}

// TestNamedAtEveryLength: digits alone do not make a name.
func TestNamedAtEveryLength(t *testing.T) {
	for n := range 300 {
		if sha.Named(strings.Repeat("a", n)) != (n == 64) {
			t.Errorf("Named is wrong at %d digits", n)
		}
	}
}
