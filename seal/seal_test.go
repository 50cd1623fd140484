package seal_test

import (
	"math/rand"
	"strings"
	"testing"

	"coffer/api"
	"coffer/seal"
)

// known: what another program sealed.
var known = []struct {
	key, nonce, path, plain, sealed string
}{
	{counting(0, 48), exampleNonce, "a", "", "79fcca9cf5c710f5"},
	{counting(0, 48), exampleNonce, "a", "one", "7f9f82455e00a66f82dacc"},
	{counting(0, 48), exampleNonce, "ab", noughts(5), "10f1e7e4d1b251758a00d13afb"},
	{counting(0, 48), exampleNonce, "\x00", "\x00", "106521084e0a73d6bf"},
	{counting(0, 48), exampleNonce, "db/password", "correct horse battery staple", "739e9596b4582d353860af6cc60013a5b3a591b54ae01b776552c6ff520e1826585c7e42"},
	{counting(0, 48), exampleNonce, "0123456789abcdef", counting(128, 64), "9070656755bedf92d88657942fadff4b57406654a755fe949cbb30015f49f2d17223c6e5a33a0caebc6b7dae7526ac0d05a32e626aa3f80e736939531eed82f1ffc25372fbd3f779"},
	{counting(0, 48), exampleNonce, strings.Repeat("\xff", 16), strings.Repeat("\xff", 64), "ef0e181b2ec4a6eaaff022e05cdf8e3b382e0b38cc3f97fcfbdd55653c2b93b12d7d9bb9f86055f6eb3d28fa2674fd5d4aed632e21e9b146342f7c175dafc3b13ea3efc656ba846e"},
	{counting(100, 48), counting(250, 12), "p/q", strings.Repeat("x", 63), "cdf4877df9556ddb85280493b1676e4d43e74f83ab03db9315d79183296f22742a188bbebe5403a94fdb923395cbedd2f8b4025110a7437da2ed8672e4a91c77e5024e3490c00d"},
}

func TestSealKnown(t *testing.T) {
	for _, c := range known {
		got, e := seal.Seal(c.key, c.nonce, c.path, c.plain)
		if got != fromHex(t, c.sealed) || e != api.OK {
			t.Errorf("P5: Seal(%x, %x, %q, %q) = %x, %d, want %s", c.key, c.nonce, c.path, c.plain, got, e, c.sealed)
		}
	}
}

func TestOpenKnown(t *testing.T) {
	for _, c := range known {
		got, e := seal.Open(c.key, c.nonce, c.path, fromHex(t, c.sealed))
		if got != c.plain || e != api.OK {
			t.Errorf("P5: Open(%x, %x, %q, %s) = %q, %d, want %q", c.key, c.nonce, c.path, c.sealed, got, e, c.plain)
		}
	}
}

// Every length of a path and of a secret; sealed texts have 8 to 72 bytes.
func TestSealAndOpenAllLengths(t *testing.T) {
	r := rand.New(rand.NewSource(5))
	text := func(n int) string {
		b := make([]byte, n)
		r.Read(b)
		return string(b)
	}
	for p := 1; p <= 16; p++ {
		for n := range 65 {
			key, nonce, path, plain := text(48), text(12), text(p), text(n)
			sealed, e := seal.Seal(key, nonce, path, plain)
			if len(sealed) != n+8 || e != api.OK {
				t.Fatalf("P5: Seal(%x, %x, %x, %x) = %x, %d", key, nonce, path, plain, sealed, e)
			}
			opened, e := seal.Open(key, nonce, path, sealed)
			if opened != plain || e != api.OK {
				t.Fatalf("P5: Open(%x, %x, %x, %x) = %x, %d, want %x", key, nonce, path, sealed, opened, e, plain)
			}
		}
	}
}

func TestSealWrongArguments(t *testing.T) {
	key := counting(0, 48)
	refuse := func(key, nonce, path, plain string) {
		t.Helper()
		got, e := seal.Seal(key, nonce, path, plain)
		if got != "" || e != api.ErrArg {
			t.Errorf("P5: Seal(%d, %d, %d, %d bytes) = %x, %d", len(key), len(nonce), len(path), len(plain), got, e)
		}
	}
	for _, wrong := range wrongLengths(48) {
		refuse(wrong, exampleNonce, "a", "one")
	}
	for _, wrong := range wrongLengths(12) {
		refuse(key, wrong, "a", "one")
	}
	for _, n := range []int{0, 17, 18, 32, 255, 256, 257, 272, 1 << 20} {
		refuse(key, exampleNonce, noughts(n), "one")
	}
	for _, n := range []int{65, 66, 72, 73, 128, 256, 257, 320, 1 << 20} {
		refuse(key, exampleNonce, "a", noughts(n))
	}
	refuse("", "", "", noughts(65))
}

func TestOpenWrongArguments(t *testing.T) {
	key := counting(0, 48)
	sealed, _ := seal.Seal(key, exampleNonce, "a", "one")
	refuse := func(key, nonce, path, sealed string) {
		t.Helper()
		got, e := seal.Open(key, nonce, path, sealed)
		if got != "" || e != api.ErrArg {
			t.Errorf("P5: Open(%d, %d, %d, %d bytes) = %x, %d", len(key), len(nonce), len(path), len(sealed), got, e)
		}
	}
	for _, wrong := range wrongLengths(48) {
		refuse(wrong, exampleNonce, "a", sealed)
	}
	for _, wrong := range wrongLengths(12) {
		refuse(key, wrong, "a", sealed)
	}
	for _, n := range []int{0, 17, 18, 32, 255, 256, 257, 272, 1 << 20} {
		refuse(key, exampleNonce, noughts(n), sealed)
	}
	for _, n := range []int{0, 1, 2, 3, 4, 5, 6, 7, 73, 74, 80, 256, 264, 328, 1 << 20} {
		refuse(key, exampleNonce, "a", noughts(n))
	}
	refuse("", "", "", "")
}

// Lengths that are right, but bytes that were never sealed: not ErrArg, but ErrSealed.
func TestOpenForgedAtTheEdges(t *testing.T) {
	for _, n := range []int{8, 9, 71, 72} {
		got, e := seal.Open(counting(0, 48), exampleNonce, "a", noughts(n))
		if got != "" || e != api.ErrSealed {
			t.Errorf("P5: Open of %d noughts = %x, %d", n, got, e)
		}
	}
}

// A bit that was turned over anywhere in what the tag hangs on is told as ErrSealed. The stream's part of the key is not hashed: with another one the tag still holds, and the answer is another secret.
func TestOpenChanged(t *testing.T) {
	for _, c := range known {
		sealed := fromHex(t, c.sealed)
		refuse := func(what string, key, nonce, path, sealed string) {
			t.Helper()
			got, e := seal.Open(key, nonce, path, sealed)
			if got != "" || e != api.ErrSealed {
				t.Errorf("P5: Open of %s with a changed %s = %x, %d", c.sealed, what, got, e)
			}
		}
		for bit := range 8 * len(sealed) {
			refuse("sealed text", c.key, c.nonce, c.path, flip(sealed, bit))
		}
		for bit := range 8 * len(c.nonce) {
			refuse("nonce", c.key, flip(c.nonce, bit), c.path, sealed)
		}
		for bit := range 8 * len(c.path) {
			refuse("path", c.key, c.nonce, flip(c.path, bit), sealed)
		}
		for bit := 8 * 32; bit < 8*48; bit++ {
			refuse("key", flip(c.key, bit), c.nonce, c.path, sealed)
		}
		for bit := range 8 * 32 {
			got, e := seal.Open(flip(c.key, bit), c.nonce, c.path, sealed)
			if len(got) != len(c.plain) || e != api.OK || (len(got) > 4 && got == c.plain) {
				t.Errorf("P5: Open of %s with another key for the stream = %x, %d", c.sealed, got, e)
			}
		}
	}
}

// Sealed texts that lost or won bytes, with lengths that may be, do not open.
func TestOpenCutAndLengthened(t *testing.T) {
	key := counting(0, 48)
	sealed, _ := seal.Seal(key, exampleNonce, "path", "a secret of some length")
	for n := 8; n < len(sealed); n++ {
		for _, part := range []string{sealed[:n], sealed[len(sealed)-n:]} {
			got, e := seal.Open(key, exampleNonce, "path", part)
			if got != "" || e != api.ErrSealed {
				t.Errorf("P5: Open of %d of %d bytes = %x, %d", n, len(sealed), got, e)
			}
		}
	}
	for _, longer := range []string{sealed + "\x00", "\x00" + sealed, sealed + sealed} {
		got, e := seal.Open(key, exampleNonce, "path", longer)
		if got != "" || e != api.ErrSealed {
			t.Errorf("P5: Open of %d bytes, not %d = %x, %d", len(longer), len(sealed), got, e)
		}
	}
}

// Bytes that pass from the path to the nonce, or from the nonce to the cover, do not leave the tag as it was.
func TestTagPartsDoNotRunTogether(t *testing.T) {
	key := counting(0, 48)
	sealed, _ := seal.Seal(key, exampleNonce, "ab", "secret")
	whole := "ab" + exampleNonce + sealed
	for _, cut := range []int{1, 3, 4} {
		got, e := seal.Open(key, whole[cut:cut+12], whole[:cut], whole[cut+12:])
		if got != "" || e != api.ErrSealed {
			t.Errorf("P5: Open with a path of %d bytes, not 2 = %x, %d", cut, got, e)
		}
	}
}

// A secret is sealed from counter 1 on: block 0 of the stream is not laid over it.
func TestCoverBeginsAtCounterOne(t *testing.T) {
	key := counting(0, 48)
	sealed, _ := seal.Seal(key, exampleNonce, "a", noughts(64))
	want, _ := seal.Stream(key[:32], exampleNonce, 1, 64)
	if len(sealed) != 72 || sealed[:64] != want {
		t.Errorf("P5: Seal of 64 noughts = %x, the cover should be %x", sealed, want)
	}
}

// P2: what was asked ahead of a call has no part in its answer.
func TestAnswersHangOnArgumentsAlone(t *testing.T) {
	for round := range 3 {
		for _, c := range known {
			sealed, _ := seal.Seal(c.key, c.nonce, c.path, c.plain)
			seal.Open(c.key, c.nonce, c.path, flip(sealed, round))
			seal.Seal("", c.nonce, c.path, c.plain)
			seal.Stream(c.key[:32], c.nonce, 1<<32-1, 256)
			seal.Hash(c.key[32:], c.plain)
			again, e := seal.Seal(c.key, c.nonce, c.path, c.plain)
			if again != sealed || sealed != fromHex(t, c.sealed) || e != api.OK {
				t.Errorf("P2: Seal = %x, and later %x, %d", sealed, again, e)
			}
		}
	}
}
