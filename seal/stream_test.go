package seal_test

import (
	"math"
	"testing"

	"coffer/api"
	"coffer/seal"
)

// The blocks of RFC 8439 (2.3.2 and A.1), and such as another program made.
func TestStreamBlocks(t *testing.T) {
	for _, c := range []struct {
		key, nonce string
		counter    uint32
		want       string
	}{
		{counting(0, 32), exampleNonce, 1, "10f1e7e4d13b5915500fdd1fa32071c4c7d1f4c733c068030422aa9ac3d46c4ed2826446079faa0914c2d705d98b02a2b5129cd1de164eb9cbd083e8a2503c4e"},
		{noughts(32), noughts(12), 0, "76b8e0ada0f13d90405d6ae55386bd28bdd219b8a08ded1aa836efcc8b770dc7da41597c5157488d7724e03fb8d84a376a43b8f41518a11cc387b669b2ee6586"},
		{noughts(32), noughts(12), 1, "9f07e7be5551387a98ba977c732d080dcb0f29a048e3656912c6533e32ee7aed29b721769ce64e43d57133b074d839d531ed1f28510afb45ace10a1f4b794d6f"},
		{noughts(31) + "\x01", noughts(12), 1, "3aeb5224ecf849929b9d828db1ced4dd832025e8018b8160b82284f3c949aa5a8eca00bbb4a73bdad192b5c42f73f2fd4e273644c8b36125a64addeb006c13a0"},
		{"\x00\xff" + noughts(30), noughts(12), 2, "72d54dfbf12ec44b362692df94137f328fea8da73990265ec1bbbea1ae9af0ca13b25aa26cb4a648cb9b9d1be65b2c0924a66c54d545ec1b7374f4872e99f096"},
		{noughts(32), noughts(11) + "\x02", 0, "c2c64d378cd536374ae204b9ef933fcd1a8b2288b3dfa49672ab765b54ee27c78a970e0e955c14f3a88e741b97c286f75f8fc299e8148362fa198a39531bed6d"},
		{counting(0, 32), exampleNonce, 1 << 31, "4c76f034662332641d91b481c074c7454e969ecae52c92c9df756ba56a7cd932d4750c0d1e0609fc44ee6681cd75bdad5a82f37b3586029e9a89a64726396f47"},
		{counting(0, 32), exampleNonce, math.MaxUint32, "ff2941b8d740f6cbb50936bf997ebd5218cb108dc53f41c64841d0218167430ca03b770ca74ccb642a28194d1dedd2ed13151e25ec5d7faeb6d060bfb7e6b146"},
	} {
		got, e := seal.Stream(c.key, c.nonce, c.counter, 64)
		if got != fromHex(t, c.want) || e != api.OK {
			t.Errorf("P3: Stream(%x, %x, %d, 64) = %x, %d, want %s", c.key, c.nonce, c.counter, got, e, c.want)
		}
	}
}

// Four blocks, whose counters are 2^32 - 2, 2^32 - 1, 0 and 1: the nonce stays what it was.
func TestStreamCounterGoesRound(t *testing.T) {
	want := fromHex(t, "bed7e9fb1985cf676d5b3eee7cdd741282a8e6703109423c0c15c551a64d374f8a897645cf2688709dc061487d111682e4be93a05f18df4a1d292f8ca8b5f460"+
		"ff2941b8d740f6cbb50936bf997ebd5218cb108dc53f41c64841d0218167430ca03b770ca74ccb642a28194d1dedd2ed13151e25ec5d7faeb6d060bfb7e6b146"+
		"8adc91fd9ff4f0f51b0fad50ff15d637e40efda206cc52c783a74200503c1582cd9833367d0a54d57d3c9e998f490ee69ca34c1ff9e939a75584c52d690a35d4"+
		"10f1e7e4d13b5915500fdd1fa32071c4c7d1f4c733c068030422aa9ac3d46c4ed2826446079faa0914c2d705d98b02a2b5129cd1de164eb9cbd083e8a2503c4e")
	got, e := seal.Stream(counting(0, 32), exampleNonce, math.MaxUint32-1, 256)
	if got != want || e != api.OK {
		t.Errorf("P3: Stream(.., 2^32 - 2, 256) = %x, %d, want %x", got, e, want)
	}
}

// Every length from 0 to 256 gives that much of the longest stream.
func TestStreamLengths(t *testing.T) {
	key := counting(7, 32)
	for _, counter := range []uint32{0, 1, math.MaxUint32 - 3, math.MaxUint32 - 2, math.MaxUint32} {
		long, e := seal.Stream(key, exampleNonce, counter, 256)
		if len(long) != 256 || e != api.OK {
			t.Fatalf("P3: Stream(.., %d, 256) = %d bytes, %d", counter, len(long), e)
		}
		for n := range 257 {
			got, e := seal.Stream(key, exampleNonce, counter, n)
			if got != long[:n] || e != api.OK {
				t.Fatalf("P3: Stream(.., %d, %d) = %x, %d", counter, n, got, e)
			}
		}
		next, _ := seal.Stream(key, exampleNonce, counter+1, 192)
		if next != long[64:] {
			t.Errorf("P3: the stream from %d is not the one from %d without its first block", counter+1, counter)
		}
	}
}

func TestStreamWrongArguments(t *testing.T) {
	key := counting(0, 32)
	refuse := func(key, nonce string, n int) {
		t.Helper()
		got, e := seal.Stream(key, nonce, 1, n)
		if got != "" || e != api.ErrArg {
			t.Errorf("P3: Stream(%d bytes, %d bytes, 1, %d) = %d bytes, %d", len(key), len(nonce), n, len(got), e)
		}
	}
	for _, wrong := range wrongLengths(32) {
		refuse(wrong, exampleNonce, 8)
		refuse(wrong, exampleNonce, 0)
	}
	for _, wrong := range wrongLengths(12) {
		refuse(key, wrong, 8)
		refuse(key, wrong, 0)
	}
	for _, n := range []int{-1, -2, -64, -256, math.MinInt, 257, 258, 320, 512, 1 << 32, 1<<32 + 8, math.MaxInt} {
		refuse(key, exampleNonce, n)
	}
	refuse("", "", -1)
	refuse(exampleNonce, key, 8)
}
