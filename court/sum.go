package court

import (
	"math/bits"
	"slices"

	"restante/api"
)

const blockSize = 64

// rounds are the words k of the chapter.
var rounds = [64]uint32{
	0x428a2f98, 0x71374491, 0xb5c0fbcf, 0xe9b5dba5, 0x3956c25b, 0x59f111f1, 0x923f82a4, 0xab1c5ed5,
	0xd807aa98, 0x12835b01, 0x243185be, 0x550c7dc3, 0x72be5d74, 0x80deb1fe, 0x9bdc06a7, 0xc19bf174,
	0xe49b69c1, 0xefbe4786, 0x0fc19dc6, 0x240ca1cc, 0x2de92c6f, 0x4a7484aa, 0x5cb0a9dc, 0x76f988da,
	0x983e5152, 0xa831c66d, 0xb00327c8, 0xbf597fc7, 0xc6e00bf3, 0xd5a79147, 0x06ca6351, 0x14292967,
	0x27b70a85, 0x2e1b2138, 0x4d2c6dfc, 0x53380d13, 0x650a7354, 0x766a0abb, 0x81c2c92e, 0x92722c85,
	0xa2bfe8a1, 0xa81a664b, 0xc24b8b70, 0xc76c51a3, 0xd192e819, 0xd6990624, 0xf40e3585, 0x106aa070,
	0x19a4c116, 0x1e376c08, 0x2748774c, 0x34b0bcb5, 0x391c0cb3, 0x4ed8aa4a, 0x5b9cca4f, 0x682e6ff3,
	0x748f82ee, 0x78a5636f, 0x84c87814, 0x8cc70208, 0x90befffa, 0xa4506ceb, 0xbef9a3f7, 0xc67178f2,
}

// Sum returns the digest of a byte string: SHA-256.
func Sum(b []byte) api.Hash {
	state := [8]uint32{0x6a09e667, 0xbb67ae85, 0x3c6ef372, 0xa54ff53a, 0x510e527f, 0x9b05688c, 0x1f83d9ab, 0x5be0cd19}
	whole := len(b) / blockSize * blockSize
	for _, part := range [][]byte{b[:whole], ending(b[whole:], len(b))} {
		for ; len(part) > 0; part = part[blockSize:] {
			state = mixed(state, schedule([blockSize]byte(part)))
		}
	}
	var h api.Hash
	for i, word := range state {
		for j := range 4 {
			h[4*i+j] = byte(word >> (24 - 8*j))
		}
	}
	return h
}

// ending returns the last blocks of a message: its last bytes, the byte 128, zero bytes, and the length of the message in bits.
func ending(last []byte, length int) []byte {
	part := append(slices.Clone(last), 128)
	for len(part)%blockSize != blockSize-8 {
		part = append(part, 0)
	}
	size := uint64(length) * 8
	for j := range 8 {
		part = append(part, byte(size>>(56-8*j)))
	}
	return part
}

// turned returns the exclusive or of a word that is rotated right by two numbers, and of a third word.
func turned(x uint32, by, and int, other uint32) uint32 {
	return bits.RotateLeft32(x, -by) ^ bits.RotateLeft32(x, -and) ^ other
}

// schedule returns the 64 words to which a block is continued.
func schedule(block [blockSize]byte) [64]uint32 {
	var w [64]uint32
	for i := range 16 {
		for j := range 4 {
			w[i] = w[i]<<8 | uint32(block[4*i+j])
		}
	}
	for i := 16; i < len(w); i++ {
		s0 := turned(w[i-15], 7, 18, w[i-15]>>3)
		s1 := turned(w[i-2], 17, 19, w[i-2]>>10)
		w[i] = s1 + w[i-7] + s0 + w[i-16]
	}
	return w
}

// mixed returns the state behind a block.
func mixed(state [8]uint32, w [64]uint32) [8]uint32 {
	a, b, c, d, e, f, g, h := state[0], state[1], state[2], state[3], state[4], state[5], state[6], state[7]
	for i := range w {
		s1 := turned(e, 6, 11, bits.RotateLeft32(e, -25))
		t := h + s1 + (e&f ^ ^e&g) + rounds[i] + w[i]
		s0 := turned(a, 2, 13, bits.RotateLeft32(a, -22))
		u := s0 + (a&b ^ a&c ^ b&c)
		h, g, f, e, d, c, b, a = g, f, e, d+t, c, b, a, t+u
	}
	for i, word := range [8]uint32{a, b, c, d, e, f, g, h} {
		state[i] += word
	}
	return state
}
