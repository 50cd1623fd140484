package seal

import "coffer/api"

const (
	streamKeyBytes = 32
	blockWords     = 16
	counterWord    = 12 // where the counter stands among a block's words
	stirTimes      = 10
)

// fours: which words of a block are stirred together, in the order in which that is done.
var fours = [8][4]int{
	{0, 4, 8, 12}, {1, 5, 9, 13}, {2, 6, 10, 14}, {3, 7, 11, 15},
	{0, 5, 10, 15}, {1, 6, 11, 12}, {2, 7, 8, 13}, {3, 4, 9, 14},
}

// Stream gives n bytes of a stream (P3).
func Stream(key string, nonce string, counter uint32, n int) (string, api.Errno) {
	if len(key) != streamKeyBytes || len(nonce) != api.NonceBytes {
		return "", api.ErrArg
	}
	if n < 0 || n > api.MaxStream {
		return "", api.ErrArg
	}
	return stream(key, nonce, counter, n), api.OK
}

// stream is Stream where the arguments are known to be within their bounds, so that no error can come of it.
func stream(key string, nonce string, counter uint32, n int) string {
	words := firstWords(key, nonce, counter)
	out := ""
	for len(out) < n {
		out += block(words)
		words[counterWord]++
	}
	return out[:n]
}

// firstWords gives the words of a block as they are ahead of all stirring.
func firstWords(key string, nonce string, counter uint32) [blockWords]uint32 {
	words := [blockWords]uint32{0x61707865, 0x3320646e, 0x79622d32, 0x6b206574}
	for i := 0; i < 8; i++ {
		words[4+i] = readWord32(key, 4*i)
	}
	words[counterWord] = counter
	for i := 0; i < 3; i++ {
		words[counterWord+1+i] = readWord32(nonce, 4*i)
	}
	return words
}

func block(first [blockWords]uint32) string {
	words := first
	for i := 0; i < stirTimes; i++ {
		for j := 0; j < len(fours); j++ {
			words = stir(words, fours[j])
		}
	}
	out := ""
	for i := 0; i < blockWords; i++ {
		out += writeWord32(words[i] + first[i])
	}
	return out
}

func stir(words [blockWords]uint32, four [4]int) [blockWords]uint32 {
	a := words[four[0]]
	b := words[four[1]]
	c := words[four[2]]
	d := words[four[3]]
	a += b
	d = turnLeft32(d^a, 16)
	c += d
	b = turnLeft32(b^c, 12)
	a += b
	d = turnLeft32(d^a, 8)
	c += d
	b = turnLeft32(b^c, 7)
	words[four[0]] = a
	words[four[1]] = b
	words[four[2]] = c
	words[four[3]] = d
	return words
}
