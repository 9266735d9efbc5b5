package whole

import (
	"math/bits"
	"slices"
)

// common is the greatest size that divides both; it may be one of the two that were given.
func common(a, b []uint64) []uint64 {
	if len(a) < len(b) {
		a, b = b, a
	}
	for len(b) > 0 && len(a) > len(b) { // one division does more than many steps by halves
		_, rest := divide(a, b)
		a, b = b, rest
	}
	if len(b) == 0 {
		return a
	}
	return commonHalves(slices.Clone(a), slices.Clone(b))
}

// commonHalves works in a and b, neither of them 0: of two odd numbers the difference is even, and its halves have the same divisors with the smaller one.
func commonHalves(a, b []uint64) []uint64 {
	twos := min(lowZeros(a), lowZeros(b))
	a, b = odd(a), odd(b)
	for len(a) > 1 || len(b) > 1 {
		order := compare(a, b)
		if order == 0 {
			return timesTwos(a, twos)
		}
		if order < 0 {
			a, b = b, a
		}
		lower(a, b)
		a = odd(trim(a))
	}
	return timesTwos([]uint64{commonWord(a[0], b[0])}, twos)
}

// commonWord is the greatest number that divides both; of 0 and 0 it is 0.
func commonWord(a, b uint64) uint64 {
	if a == 0 || b == 0 {
		return a | b
	}
	twos := bits.TrailingZeros64(a | b)
	a >>= bits.TrailingZeros64(a)
	for b != 0 {
		b >>= bits.TrailingZeros64(b)
		a, b = min(a, b), max(a, b)-min(a, b)
	}
	return a << twos
}

// lowZeros is how often 2 divides w, which is not 0.
func lowZeros(w []uint64) int {
	k := 0
	for w[k] == 0 {
		k++
	}
	return 64*k + bits.TrailingZeros64(w[k])
}

// odd divides w, which is not 0, by 2 as often as it goes, in w.
func odd(w []uint64) []uint64 {
	zeros := lowZeros(w)
	w = w[zeros/64:]
	shiftDown(w, zeros%64)
	return trim(w)
}

// timesTwos is a times 2^twos.
func timesTwos(a []uint64, twos int) []uint64 {
	out := make([]uint64, twos/64)
	return trim(append(out, shiftUp(a, twos%64)...))
}
