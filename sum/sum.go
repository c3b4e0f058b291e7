// Package sum is layer 1: see shared/doc/01-sum.md.
package sum

const (
	hashStart  = 14695981039346656037
	hashPrime  = 1099511628211
	hashSpread = 15459136393263645077
)

// Of is a text's sum.
func Of(b []byte) uint32 { return More(0, b) }

// More is the sum of a text whose sum is s, and b behind it.
func More(s uint32, b []byte) uint32 {
	// Four moves of the register hang on its lowest four bits alone: each word is what they come to.
	table := [16]uint32{
		0x00000000, 0x1DB71064, 0x3B6E20C8, 0x26D930AC,
		0x76DC4190, 0x6B6B51F4, 0x4DB26158, 0x5005713C,
		0xEDB88320, 0xF00F9344, 0xD6D6A3E8, 0xCB61B38C,
		0x9B64C2B0, 0x86D3D2D4, 0xA00AE278, 0xBDBDF21C,
	}
	register := ^s
	for _, c := range b {
		register ^= uint32(c)
		register = register>>4 ^ table[register&15]
		register = register>>4 ^ table[register&15]
	}
	return ^register
}

// Hash is a text's hash.
func Hash(s string) uint64 {
	h := uint64(hashStart)
	// By index, since a range over a text would give its runes.
	for i := 0; i < len(s); i++ {
		h = (h ^ uint64(s[i])) * hashPrime
	}
	// Texts that differ in their last byte alone come out of the loop close together; this spreads them.
	h = (h ^ h>>32) * hashSpread
	return h ^ h>>32
}
