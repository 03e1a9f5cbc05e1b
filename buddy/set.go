package buddy

import "math/bits"

// wordBits is how many numbers a word of a set tells of.
const wordBits = 64

// set is a set of numbers from 0 on, a bit each. No word ahead of low has a member: the search for the least one begins there.
type set struct {
	words []uint64
	size  int
	low   int
}

// newSet is an empty set for numbers below bound.
func newSet(bound int) set {
	return set{words: make([]uint64, (bound+wordBits-1)/wordBits)}
}

// add puts a number in that is below the bound and no member.
func (s *set) add(i int) {
	s.words[i/wordBits] |= 1 << (i % wordBits)
	s.size++
	s.low = min(s.low, i/wordBits)
}

// remove takes a member out.
func (s *set) remove(i int) {
	s.words[i/wordBits] &^= 1 << (i % wordBits)
	s.size--
}

// has tells whether a number from 0 on is a member: past the bound none is.
func (s *set) has(i int) bool {
	return i/wordBits < len(s.words) && s.words[i/wordBits]>>(i%wordBits)&1 == 1
}

func (s *set) empty() bool { return s.size == 0 }

// least is the least member of a set that is not empty.
func (s *set) least() int {
	for s.words[s.low] == 0 {
		s.low++
	}
	return s.low*wordBits + bits.TrailingZeros64(s.words[s.low])
}
