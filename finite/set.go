package finite

import (
	"math/bits"

	"optima/api"
)

const words = (api.MaxVals + 63) / 64

// set is some places of a list, a bit for each.
type set [words]uint64

func only(at int) set {
	var s set
	s.add(at)
	return s
}

func upTo(many int) set {
	var s set
	for at := range many {
		s.add(at)
	}
	return s
}

func (s *set) add(at int) { s[at/64] |= 1 << (at % 64) }

func (s set) has(at int) bool { return s[at/64]>>(at%64)&1 == 1 }

func (s set) and(o set) set {
	for i := range s {
		s[i] &= o[i]
	}
	return s
}

func (s set) or(o set) set {
	for i := range s {
		s[i] |= o[i]
	}
	return s
}

func (s set) less(o set) set {
	for i := range s {
		s[i] &^= o[i]
	}
	return s
}

func (s set) isEmpty() bool { return s == set{} }

// isOne is whether there is one place alone, of a set that is not empty.
func (s set) isOne() bool { return s.first() == s.last() }

// meets is whether a place is in both.
func (s set) meets(o set) bool { return !s.and(o).isEmpty() }

// next is the first place that is not ahead of one; -1, if there is none.
func (s set) next(from int) int {
	for i := from / 64; i < words; i++ {
		word := s[i]
		if i == from/64 {
			word &= ^uint64(0) << (from % 64)
		}
		if word != 0 {
			return 64*i + bits.TrailingZeros64(word)
		}
	}
	return -1
}

// first is the first place; -1, if there is none.
func (s set) first() int { return s.next(0) }

// last is the last place; -1, if there is none.
func (s set) last() int {
	for i := words - 1; i >= 0; i-- {
		if s[i] != 0 {
			return 64*i + bits.Len64(s[i]) - 1
		}
	}
	return -1
}
