// Package seal: streams, hashes, and sealed texts: see DOC.md.
package seal

import "coffer/api"

const (
	tagBytes     = 8
	coverCounter = 1 // of the stream's first block that covers a secret
)

// Seal seals a text (P5).
func Seal(key string, nonce string, path string, plain string) (string, api.Errno) {
	if !wellFormed(key, nonce, path) || len(plain) > api.MaxPlain {
		return "", api.ErrArg
	}
	cover := mask(key, nonce, plain)
	tag := tagOf(key, nonce, path, cover)
	return cover + writeWord64(tag), api.OK
}

// Open opens a sealed text (P5).
func Open(key string, nonce string, path string, sealed string) (string, api.Errno) {
	if !wellFormed(key, nonce, path) || len(sealed) < tagBytes || len(sealed) > api.MaxPlain+tagBytes {
		return "", api.ErrArg
	}
	end := len(sealed) - tagBytes
	cover := sealed[:end]
	told := readWord64(sealed, end)
	// The tags are compared as one word, not byte by byte: how long that takes should not tell where they differ.
	if told != tagOf(key, nonce, path, cover) {
		return "", api.ErrSealed
	}
	return mask(key, nonce, cover), api.OK
}

// wellFormed tells whether these are a key, a nonce and a path.
func wellFormed(key string, nonce string, path string) bool {
	if len(key) != api.KeyBytes || len(nonce) != api.NonceBytes {
		return false
	}
	return len(path) >= 1 && len(path) <= api.MaxPath
}

// mask lays the stream over a text: a secret becomes its cover, a cover its secret.
func mask(key string, nonce string, text string) string {
	over := stream(key[:streamKeyBytes], nonce, coverCounter, len(text))
	out := make([]byte, len(text))
	for i := 0; i < len(text); i++ {
		out[i] = text[i] ^ over[i]
	}
	return string(out)
}

// tagOf gives the tag of a cover. The path's length is hashed ahead of the path, so that no byte can pass from the path to the nonce unseen.
func tagOf(key string, nonce string, path string, cover string) uint64 {
	length := string([]byte{byte(len(path))})
	return hash(key[streamKeyBytes:], length+path+nonce+cover)
}
