package index

import (
	"cmp"
	"math/bits"
	"slices"
)

const wordFrames = 64 // frames that one word has bits for

// word has a bit for each of the frames from 64 key to 64 key + 63.
type word struct {
	key  int
	bits uint64
}

// set is frames, as words that rise by their keys; a word without a bit isn't in it. Pages of noughts may be most of a machine's, all of one digest: as words they are few enough to be kept in order whichever comes next.
type set []word

// with is the set with the frame in it; s isn't to be used any more.
func (s set) with(frame int) set {
	at, there := s.find(frame)
	if !there {
		s = slices.Insert(s, at, word{key: frame / wordFrames})
	}
	s[at].bits |= bit(frame)
	return s
}

// without is the set without a frame that is in it; s isn't to be used any more.
func (s set) without(frame int) set {
	at, _ := s.find(frame)
	s[at].bits &^= bit(frame)
	if s[at].bits == 0 {
		return slices.Delete(s, at, at+1)
	}
	return s
}

// each hands the frames to see, rising, as long as it asks for more.
func (s set) each(see func(frame int) bool) {
	for _, w := range s {
		for b := w.bits; b != 0; b &= b - 1 { // b & (b-1) is b without its lowest bit
			if !see(w.key*wordFrames + bits.TrailingZeros64(b)) {
				return
			}
		}
	}
}

// find is the place of the frame's word, or the one where it would stand, and whether it is there.
func (s set) find(frame int) (int, bool) {
	return slices.BinarySearchFunc(s, frame/wordFrames, func(w word, key int) int { return cmp.Compare(w.key, key) })
}

// bit is the frame's bit in its word.
func bit(frame int) uint64 { return 1 << (frame % wordFrames) }
