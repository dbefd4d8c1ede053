package graph

import "math/bits"

// word is as many numbers of a set as it has bits: the lowest bit is the least number.
type word uint64

// width is how many bits a word has.
const width = 64

// set is numbers from 0 on: so a graph of 2,000 is asked in 32 words.
type set []word

// newSet answers a set of none, with room for the numbers below n.
func newSet(n int) set {
	return make(set, (n+width-1)/width)
}

// add takes the number i, for which there has to be room.
func (s set) add(i int) {
	s[i/width] |= bit(i)
}

// has tells whether i, whatever number it is, is in s.
func (s set) has(i int) bool {
	return i >= 0 && i/width < len(s) && s[i/width]&bit(i) != 0
}

// numbers answers all that are in s, rising.
func (s set) numbers() []int {
	var all []int
	for i, w := range s {
		for ; w != 0; w &= w - 1 {
			all = append(all, i*width+bits.TrailingZeros64(uint64(w)))
		}
	}
	return all
}

// bit answers that of the number i within its word.
func bit(i int) word {
	return 1 << (uint(i) % width)
}
