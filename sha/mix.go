package sha

import "math/bits"

const rounds = 64

// roundKeys are the first 32 bits behind the point of the cube roots of the first 64 primes.
var roundKeys = [rounds]uint32{
	0x428a2f98, 0x71374491, 0xb5c0fbcf, 0xe9b5dba5, 0x3956c25b, 0x59f111f1, 0x923f82a4, 0xab1c5ed5,
	0xd807aa98, 0x12835b01, 0x243185be, 0x550c7dc3, 0x72be5d74, 0x80deb1fe, 0x9bdc06a7, 0xc19bf174,
	0xe49b69c1, 0xefbe4786, 0x0fc19dc6, 0x240ca1cc, 0x2de92c6f, 0x4a7484aa, 0x5cb0a9dc, 0x76f988da,
	0x983e5152, 0xa831c66d, 0xb00327c8, 0xbf597fc7, 0xc6e00bf3, 0xd5a79147, 0x06ca6351, 0x14292967,
	0x27b70a85, 0x2e1b2138, 0x4d2c6dfc, 0x53380d13, 0x650a7354, 0x766a0abb, 0x81c2c92e, 0x92722c85,
	0xa2bfe8a1, 0xa81a664b, 0xc24b8b70, 0xc76c51a3, 0xd192e819, 0xd6990624, 0xf40e3585, 0x106aa070,
	0x19a4c116, 0x1e376c08, 0x2748774c, 0x34b0bcb5, 0x391c0cb3, 0x4ed8aa4a, 0x5b9cca4f, 0x682e6ff3,
	0x748f82ee, 0x78a5636f, 0x84c87814, 0x8cc70208, 0x90befffa, 0xa4506ceb, 0xbef9a3f7, 0xc67178f2,
}

// mixed answers the state that a block makes of another one.
func mixed(state [8]uint32, block [blockSize]byte) [8]uint32 {
	w := schedule(block)
	a, b, c, d, e, f, g, h := state[0], state[1], state[2], state[3], state[4], state[5], state[6], state[7]
	for i := range rounds {
		p := h + (turned(e, 6) ^ turned(e, 11) ^ turned(e, 25)) + (e&f ^ ^e&g) + roundKeys[i] + w[i]
		q := (turned(a, 2) ^ turned(a, 13) ^ turned(a, 22)) + (a&b ^ a&c ^ b&c)
		h, g, f, e, d, c, b, a = g, f, e, d+p, c, b, a, p+q
	}
	for i, x := range [8]uint32{a, b, c, d, e, f, g, h} {
		state[i] += x
	}
	return state
}

// schedule answers the words of a block's rounds: its own sixteen, and those that are made of them.
func schedule(block [blockSize]byte) [rounds]uint32 {
	var w [rounds]uint32
	for i := range 16 {
		at := 4 * i
		w[i] = uint32(block[at])<<24 | uint32(block[at+1])<<16 | uint32(block[at+2])<<8 | uint32(block[at+3])
	}
	for i := 16; i < rounds; i++ {
		x, y := w[i-15], w[i-2]
		s := turned(x, 7) ^ turned(x, 18) ^ x>>3
		t := turned(y, 17) ^ turned(y, 19) ^ y>>10
		w[i] = w[i-16] + s + w[i-7] + t
	}
	return w
}

// turned answers a word rotated to the right.
func turned(x uint32, k int) uint32 { return bits.RotateLeft32(x, -k) }
