package graph

import (
	"math/bits"

	"sccsettle/api"
)

const wordBits = 64

// set of places of a sheet, a bit each: a sheet has few of them, and sets are joined over and over.
type set [(api.MaxCells + wordBits - 1) / wordBits]uint64

func (s *set) put(place int) {
	s[place/wordBits] |= 1 << (place % wordBits)
}

func (s set) has(place int) bool {
	return s[place/wordBits]&(1<<(place%wordBits)) != 0
}

func (s set) with(t set) set {
	for i := range s {
		s[i] |= t[i]
	}
	return s
}

func (s set) without(t set) set {
	for i := range s {
		s[i] &^= t[i]
	}
	return s
}

func (s set) common(t set) set {
	for i := range s {
		s[i] &= t[i]
	}
	return s
}

func (s set) empty() bool { return s == set{} }

// each goes through the places as they rise.
func (s set) each(yield func(place int) bool) {
	for i, word := range s {
		for ; word != 0; word &= word - 1 {
			if !yield(i*wordBits + bits.TrailingZeros64(word)) {
				return
			}
		}
	}
}

// first is asked of sets that are not empty.
func (s set) first() int {
	for place := range s.each {
		return place
	}
	return 0
}
