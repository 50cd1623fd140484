package seal_test

import (
	"encoding/hex"
	"strings"
	"testing"
)

// exampleNonce is the nonce N of the document's examples.
const exampleNonce = "\x00\x00\x00\x09\x00\x00\x00\x4a\x00\x00\x00\x00"

// counting gives n bytes: from, from + 1 ..
func counting(from, n int) string {
	b := make([]byte, n)
	for i := range b {
		b[i] = byte(from + i)
	}
	return string(b)
}

func noughts(n int) string { return strings.Repeat("\x00", n) }

func fromHex(t *testing.T, digits string) string {
	t.Helper()
	b, err := hex.DecodeString(digits)
	if err != nil {
		t.Fatalf("%q is no hex: %v", digits, err)
	}
	return string(b)
}

// flip turns one bit of a text over.
func flip(text string, bit int) string {
	b := []byte(text)
	b[bit/8] ^= 1 << (bit % 8)
	return string(b)
}

// wrongLengths gives texts of all lengths that are near to a right one, and of some that are far from it, but not the right one.
func wrongLengths(right int) []string {
	var out []string
	for n := range 2*right + 70 {
		if n != right {
			out = append(out, counting(0, n))
		}
	}
	return append(out, noughts(256+right), noughts(1<<16+right), noughts(1<<20))
}
