// Package sha is layer 1: see shared/doc/01-sha.md. It makes sums of bytes by SHA-256.
package sha

import "stepladder/api"

const (
	chunkSize  = 64 // bytes that are gone through at once
	lengthSize = 8  // bytes that tell the length, at the end
)

// The first 32 bits behind the point of the square roots of the first eight primes.
var firstWords = [8]uint32{
	0x6a09e667, 0xbb67ae85, 0x3c6ef372, 0xa54ff53a,
	0x510e527f, 0x9b05688c, 0x1f83d9ab, 0x5be0cd19,
}

// The first 32 bits behind the point of the cube roots of the first 64 primes.
var roundNumbers = [64]uint32{
	0x428a2f98, 0x71374491, 0xb5c0fbcf, 0xe9b5dba5, 0x3956c25b, 0x59f111f1, 0x923f82a4, 0xab1c5ed5,
	0xd807aa98, 0x12835b01, 0x243185be, 0x550c7dc3, 0x72be5d74, 0x80deb1fe, 0x9bdc06a7, 0xc19bf174,
	0xe49b69c1, 0xefbe4786, 0x0fc19dc6, 0x240ca1cc, 0x2de92c6f, 0x4a7484aa, 0x5cb0a9dc, 0x76f988da,
	0x983e5152, 0xa831c66d, 0xb00327c8, 0xbf597fc7, 0xc6e00bf3, 0xd5a79147, 0x06ca6351, 0x14292967,
	0x27b70a85, 0x2e1b2138, 0x4d2c6dfc, 0x53380d13, 0x650a7354, 0x766a0abb, 0x81c2c92e, 0x92722c85,
	0xa2bfe8a1, 0xa81a664b, 0xc24b8b70, 0xc76c51a3, 0xd192e819, 0xd6990624, 0xf40e3585, 0x106aa070,
	0x19a4c116, 0x1e376c08, 0x2748774c, 0x34b0bcb5, 0x391c0cb3, 0x4ed8aa4a, 0x5b9cca4f, 0x682e6ff3,
	0x748f82ee, 0x78a5636f, 0x84c87814, 0x8cc70208, 0x90befffa, 0xa4506ceb, 0xbef9a3f7, 0xc67178f2,
}

// Sum is the sum of bytes.
func Sum(b []byte) api.Id {
	p := Pad(b)
	left := firstWords
	for i := range len(p) / chunkSize {
		left = mix(left, p[i*chunkSize:(i+1)*chunkSize])
	}
	return idOf(left)
}

// Of is the sum of all bytes, one behind the other.
func Of(l ...[]byte) api.Id {
	var all []byte
	for _, b := range l {
		all = append(all, b...)
	}
	return Sum(all)
}

// Pad is what bytes become ahead of being summed.
func Pad(b []byte) []byte {
	used := len(b) + 1 + lengthSize
	size := (used + chunkSize - 1) / chunkSize * chunkSize
	// New memory: an append to b itself could write behind its end into what the caller has there.
	p := make([]byte, size)
	copy(p, b)
	p[len(b)] = 128
	length := lengthBytes(len(b))
	copy(p[size-lengthSize:], length[:])
	return p
}

// Less tells whether an id is less than another one, by the first byte at which they differ.
func Less(a, b api.Id) bool {
	for i := range len(a) {
		if a[i] != b[i] {
			return a[i] < b[i]
		}
	}
	return false
}

// lengthBytes counts by 64 bits: eight times n may be above 2^32.
func lengthBytes(n int) [lengthSize]byte {
	var out [lengthSize]byte
	rest := 8 * uint64(n)
	for i := range lengthSize {
		out[lengthSize-1-i] = byte(rest)
		rest >>= 8
	}
	return out
}

func mix(left [8]uint32, chunk []byte) [8]uint32 {
	w := schedule(chunk)
	now := left
	for i := range len(w) {
		now = round(now, roundNumbers[i], w[i])
	}
	for i := range len(left) {
		left[i] += now[i]
	}
	return left
}

func schedule(chunk []byte) [64]uint32 {
	var w [64]uint32
	for i := range 16 {
		w[i] = wordOf(chunk[4*i : 4*i+4])
	}
	for i := 16; i < len(w); i++ {
		x, y := w[i-15], w[i-2]
		s := turn(x, 7) ^ turn(x, 18) ^ x>>3
		t := turn(y, 17) ^ turn(y, 19) ^ y>>10
		w[i] = w[i-16] + w[i-7] + s + t
	}
	return w
}

func round(v [8]uint32, number, word uint32) [8]uint32 {
	a, b, c, d, e, f, g, h := v[0], v[1], v[2], v[3], v[4], v[5], v[6], v[7]
	choice := e&f ^ ^e&g
	most := a&b ^ a&c ^ b&c
	x := h + (turn(e, 6) ^ turn(e, 11) ^ turn(e, 25)) + choice + number + word
	y := (turn(a, 2) ^ turn(a, 13) ^ turn(a, 22)) + most
	return [8]uint32{x + y, a, b, c, d + x, e, f, g}
}

func turn(x uint32, n uint) uint32 {
	return x>>n | x<<(32-n)
}

func wordOf(b []byte) uint32 {
	return uint32(b[0])<<24 | uint32(b[1])<<16 | uint32(b[2])<<8 | uint32(b[3])
}

func idOf(words [8]uint32) api.Id {
	var id api.Id
	for i, x := range words {
		id[4*i] = byte(x >> 24)
		id[4*i+1] = byte(x >> 16)
		id[4*i+2] = byte(x >> 8)
		id[4*i+3] = byte(x)
	}
	return id
}
