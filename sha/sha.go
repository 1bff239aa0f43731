// Package sha is layer 1: a sum that nobody meets.
package sha

import "math/bits"

// chunk is how many bytes are folded into the state at once.
const chunk = 64

// first is the state ahead of all bytes: from the square roots of the first 8 primes.
var first = [8]uint32{
	0x6a09e667, 0xbb67ae85, 0x3c6ef372, 0xa54ff53a, 0x510e527f, 0x9b05688c, 0x1f83d9ab, 0x5be0cd19,
}

// roots has a word for each round: from the cube roots of the first 64 primes.
var roots = [64]uint32{
	0x428a2f98, 0x71374491, 0xb5c0fbcf, 0xe9b5dba5, 0x3956c25b, 0x59f111f1, 0x923f82a4, 0xab1c5ed5,
	0xd807aa98, 0x12835b01, 0x243185be, 0x550c7dc3, 0x72be5d74, 0x80deb1fe, 0x9bdc06a7, 0xc19bf174,
	0xe49b69c1, 0xefbe4786, 0x0fc19dc6, 0x240ca1cc, 0x2de92c6f, 0x4a7484aa, 0x5cb0a9dc, 0x76f988da,
	0x983e5152, 0xa831c66d, 0xb00327c8, 0xbf597fc7, 0xc6e00bf3, 0xd5a79147, 0x06ca6351, 0x14292967,
	0x27b70a85, 0x2e1b2138, 0x4d2c6dfc, 0x53380d13, 0x650a7354, 0x766a0abb, 0x81c2c92e, 0x92722c85,
	0xa2bfe8a1, 0xa81a664b, 0xc24b8b70, 0xc76c51a3, 0xd192e819, 0xd6990624, 0xf40e3585, 0x106aa070,
	0x19a4c116, 0x1e376c08, 0x2748774c, 0x34b0bcb5, 0x391c0cb3, 0x4ed8aa4a, 0x5b9cca4f, 0x682e6ff3,
	0x748f82ee, 0x78a5636f, 0x84c87814, 0x8cc70208, 0x90befffa, 0xa4506ceb, 0xbef9a3f7, 0xc67178f2,
}

// Hash of what was written. Its zero value is a new one.
type Hash struct {
	state [8]uint32   // noughts till the first byte comes, so that the zero value needs no maker
	rest  [chunk]byte // the first n % chunk of these aren't folded yet
	n     int
}

// New hash.
func New() *Hash {
	return &Hash{}
}

// Write bytes: how many.
func (h *Hash) Write(b []byte) int {
	if h == nil {
		return 0
	}
	if h.n == 0 {
		h.state = first
	}
	for left := b; len(left) > 0; {
		k := copy(h.rest[h.n%chunk:], left)
		left = left[k:]
		h.n += k
		if h.n%chunk == 0 {
			h.fold()
		}
	}
	return len(b)
}

// Len: how many bytes were written.
func (h *Hash) Len() int {
	if h == nil {
		return 0
	}
	return h.n
}

// Clone of a hash.
func (h *Hash) Clone() *Hash {
	if h == nil {
		return nil
	}
	c := *h
	return &c
}

// Sum of what was written.
func (h *Hash) Sum() [32]byte {
	// The end goes into a copy: more may be written behind a sum.
	var c Hash
	if h != nil {
		c = *h
	}
	c.finish()
	return spell(c.state)
}

// Sum of bytes.
func Sum(b ...[]byte) [32]byte {
	var h Hash
	for _, part := range b {
		h.Write(part)
	}
	return h.Sum()
}

// Same bytes? (As many steps for any two of a length.)
func Same(a, b []byte) bool {
	if len(a) != len(b) {
		return false
	}
	// No way out of the loop: how long it takes must not tell where they differ.
	var differ byte
	for i := range a {
		differ |= a[i] ^ b[i]
	}
	return differ == 0
}

// finish brings what was written to whole chunks, its length at the end.
func (h *Hash) finish() {
	var tail [chunk + 8]byte
	size := uint64(h.n) * 8
	gap := (chunk+55-h.n%chunk)%chunk + 1 // from 1 to chunk: the byte 80 always, and noughts
	tail[0] = 0x80
	for i := range 8 {
		tail[gap+i] = byte(size >> (56 - 8*i))
	}
	h.Write(tail[:gap+8])
}

// fold the rest, a whole chunk, into the state.
func (h *Hash) fold() {
	words := h.schedule()
	s := h.state
	// The state is in variables of their own while it turns: an array is several times as slow.
	a, b, c, d, e, f, g, last := s[0], s[1], s[2], s[3], s[4], s[5], s[6], s[7]
	for t := range words {
		t1 := last + turns(e, 6, 11, 25) + (e&f ^ ^e&g) + roots[t] + words[t]
		t2 := turns(a, 2, 13, 22) + (a&b ^ a&c ^ b&c)
		last, g, f, e, d, c, b, a = g, f, e, d+t1, c, b, a, t1+t2
	}
	for i, w := range [8]uint32{a, b, c, d, e, f, g, last} {
		h.state[i] += w
	}
}

// schedule has the rounds' words of the rest.
func (h *Hash) schedule() [64]uint32 {
	var w [64]uint32
	for t := range 16 {
		b := h.rest[4*t : 4*t+4]
		w[t] = uint32(b[0])<<24 | uint32(b[1])<<16 | uint32(b[2])<<8 | uint32(b[3])
	}
	for t := 16; t < 64; t++ {
		w[t] = spread(w[t-2], 17, 19, 10) + w[t-7] + spread(w[t-15], 7, 18, 3) + w[t-16]
	}
	return w
}

// turns: a word turned down by i, by j and by k bits.
func turns(x uint32, i, j, k int) uint32 {
	return bits.RotateLeft32(x, -i) ^ bits.RotateLeft32(x, -j) ^ bits.RotateLeft32(x, -k)
}

// spread: a word turned down by i and by j bits, and shifted down by k.
func spread(x uint32, i, j, k int) uint32 {
	return bits.RotateLeft32(x, -i) ^ bits.RotateLeft32(x, -j) ^ x>>k
}

// spell a state's words, the greatest byte first.
func spell(s [8]uint32) [32]byte {
	var sum [32]byte
	for i, w := range s {
		sum[4*i] = byte(w >> 24)
		sum[4*i+1] = byte(w >> 16)
		sum[4*i+2] = byte(w >> 8)
		sum[4*i+3] = byte(w)
	}
	return sum
}
