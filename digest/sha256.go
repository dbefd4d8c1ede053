package digest

import (
	"rick/api"
)

const (
	blockBytes  = 64 // of what is mixed in at once
	lengthBytes = 8  // of the number of bits, at the end of the last block
	wordBytes   = 4
	wordBits    = 8 * wordBytes
	rounds      = 64 // of each block
)

// roundWords: of each round the first 32 bits behind the point of the cube root of a prime, from 2 on (FIPS 180-4, 4.2.2).
var roundWords = [rounds]uint32{
	0x428a2f98, 0x71374491, 0xb5c0fbcf, 0xe9b5dba5, 0x3956c25b, 0x59f111f1, 0x923f82a4, 0xab1c5ed5,
	0xd807aa98, 0x12835b01, 0x243185be, 0x550c7dc3, 0x72be5d74, 0x80deb1fe, 0x9bdc06a7, 0xc19bf174,
	0xe49b69c1, 0xefbe4786, 0x0fc19dc6, 0x240ca1cc, 0x2de92c6f, 0x4a7484aa, 0x5cb0a9dc, 0x76f988da,
	0x983e5152, 0xa831c66d, 0xb00327c8, 0xbf597fc7, 0xc6e00bf3, 0xd5a79147, 0x06ca6351, 0x14292967,
	0x27b70a85, 0x2e1b2138, 0x4d2c6dfc, 0x53380d13, 0x650a7354, 0x766a0abb, 0x81c2c92e, 0x92722c85,
	0xa2bfe8a1, 0xa81a664b, 0xc24b8b70, 0xc76c51a3, 0xd192e819, 0xd6990624, 0xf40e3585, 0x106aa070,
	0x19a4c116, 0x1e376c08, 0x2748774c, 0x34b0bcb5, 0x391c0cb3, 0x4ed8aa4a, 0x5b9cca4f, 0x682e6ff3,
	0x748f82ee, 0x78a5636f, 0x84c87814, 0x8cc70208, 0x90befffa, 0xa4506ceb, 0xbef9a3f7, 0xc67178f2,
}

// state is what all blocks so far came to.
type state [8]uint32

// start answers the state ahead of the first block: like roundWords, but of the square roots of the first eight primes (FIPS 180-4, 5.3.3).
func start() state {
	return state{0x6a09e667, 0xbb67ae85, 0x3c6ef372, 0xa54ff53a, 0x510e527f, 0x9b05688c, 0x1f83d9ab, 0x5be0cd19}
}

// addAll mixes in the blocks of which b is made, in order.
func (s *state) addAll(b []byte) {
	for at := 0; at+blockBytes <= len(b); at += blockBytes {
		s.add(b[at : at+blockBytes])
	}
}

// add mixes in a block (FIPS 180-4, 6.2.2).
func (s *state) add(block []byte) {
	words := schedule(block)
	a, b, c, d, e, f, g, h := s[0], s[1], s[2], s[3], s[4], s[5], s[6], s[7]
	for i := range words {
		chosen := e&f ^ ^e&g
		most := a&b ^ a&c ^ b&c
		one := h + (turned(e, 6) ^ turned(e, 11) ^ turned(e, 25)) + chosen + roundWords[i] + words[i]
		two := (turned(a, 2) ^ turned(a, 13) ^ turned(a, 22)) + most
		a, b, c, d, e, f, g, h = one+two, a, b, c, d+one, e, f, g
	}
	for i, v := range [...]uint32{a, b, c, d, e, f, g, h} {
		s[i] += v
	}
}

// key answers the words of s, the highest byte of each first.
func (s *state) key() api.Key {
	var k api.Key
	for i, w := range s {
		for j := range wordBytes {
			k[wordBytes*i+j] = byte(w >> (wordBits - 8 - 8*j))
		}
	}
	return k
}

// schedule answers a word for each round: those of the block, then each from four ahead of it.
func schedule(block []byte) [rounds]uint32 {
	var words [rounds]uint32
	given := blockBytes / wordBytes
	for i := range given {
		b := block[wordBytes*i : wordBytes*i+wordBytes]
		words[i] = uint32(b[0])<<24 | uint32(b[1])<<16 | uint32(b[2])<<8 | uint32(b[3])
	}
	for i := given; i < rounds; i++ {
		far, near := words[i-15], words[i-2]
		far = turned(far, 7) ^ turned(far, 18) ^ far>>3
		near = turned(near, 17) ^ turned(near, 19) ^ near>>10
		words[i] = words[i-16] + far + words[i-7] + near
	}
	return words
}

// ending answers the last block, or the last two: what is left of the bytes, a bit that tells where they end, zeros, and how many bits all bytes have.
func ending(left []byte, all uint64) []byte {
	end := make([]byte, 0, 2*blockBytes)
	end = append(end, left...)
	end = append(end, 1<<7)
	for len(end)%blockBytes != blockBytes-lengthBytes {
		end = append(end, 0)
	}
	bits := 8 * all
	for i := range lengthBytes {
		end = append(end, byte(bits>>(8*(lengthBytes-1-i))))
	}
	return end
}

// turned answers w, turned right by n bits (n from 1 to 31): what falls out below comes in above.
func turned(w uint32, n uint) uint32 {
	return w>>n | w<<(wordBits-n)
}
