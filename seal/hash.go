package seal

import "coffer/api"

const hashKeyBytes = 16

// mixer is the four words of a hash that is being made.
type mixer struct {
	v0, v1, v2, v3 uint64
}

// Hash gives the hash of a text under a key (P4).
func Hash(key string, text string) (uint64, api.Errno) {
	if len(key) != hashKeyBytes || len(text) > api.MaxText {
		return 0, api.ErrArg
	}
	return hash(key, text), api.OK
}

// hash is Hash where the arguments are known to be within their bounds, so that no error can come of it.
func hash(key string, text string) uint64 {
	m := newMixer(key)
	whole := pad(text)
	for at := 0; at+8 <= len(whole); at += 8 {
		word := readWord64(whole, at)
		m.v3 ^= word
		m.rounds(2)
		m.v0 ^= word
	}
	m.v2 ^= 0xff
	m.rounds(4)
	return m.v0 ^ m.v1 ^ m.v2 ^ m.v3
}

func newMixer(key string) mixer {
	k0 := readWord64(key, 0)
	k1 := readWord64(key, 8)
	return mixer{
		v0: k0 ^ 0x736f6d6570736575,
		v1: k1 ^ 0x646f72616e646f6d,
		v2: k0 ^ 0x6c7967656e657261,
		v3: k1 ^ 0x7465646279746573,
	}
}

// pad fills a text up to a multiple of 8 bytes; its length stands last, so that texts that differ in noughts at the end alone do not become the same.
func pad(text string) string {
	whole := []byte(text)
	for len(whole)%8 != 7 {
		whole = append(whole, 0)
	}
	whole = append(whole, byte(len(text)%256))
	return string(whole)
}

func (m *mixer) rounds(n int) {
	for i := 0; i < n; i++ {
		m.round()
	}
}

func (m *mixer) round() {
	m.v0 += m.v1
	m.v1 = turnLeft64(m.v1, 13) ^ m.v0
	m.v0 = turnLeft64(m.v0, 32)
	m.v2 += m.v3
	m.v3 = turnLeft64(m.v3, 16) ^ m.v2
	m.v0 += m.v3
	m.v3 = turnLeft64(m.v3, 21) ^ m.v0
	m.v2 += m.v1
	m.v1 = turnLeft64(m.v1, 17) ^ m.v2
	m.v2 = turnLeft64(m.v2, 32)
}
