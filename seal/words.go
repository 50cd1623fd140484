package seal

// readWord32 reads the four bytes from at on; the caller sees to it that they are there.
func readWord32(text string, at int) uint32 {
	word := uint32(0)
	for i := 3; i >= 0; i-- {
		word = word<<8 | uint32(text[at+i])
	}
	return word
}

// readWord64 reads the eight bytes from at on; the caller sees to it that they are there.
func readWord64(text string, at int) uint64 {
	low := readWord32(text, at)
	high := readWord32(text, at+4)
	return uint64(high)<<32 | uint64(low)
}

func writeWord32(word uint32) string {
	return string([]byte{byte(word), byte(word >> 8), byte(word >> 16), byte(word >> 24)})
}

func writeWord64(word uint64) string {
	low := writeWord32(uint32(word))
	high := writeWord32(uint32(word >> 32))
	return low + high
}

func turnLeft32(word uint32, bits uint) uint32 {
	return word<<bits | word>>(32-bits)
}

func turnLeft64(word uint64, bits uint) uint64 {
	return word<<bits | word>>(64-bits)
}
