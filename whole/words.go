package whole

import (
	"cmp"
	"math"
	"math/bits"
)

// A size is a list of words, the lowest first, the last one not 0; 0 has none. What is called a size here is only read, and answers are new, but where a remark says otherwise.

// trim is w without the zeros at its high end.
func trim(w []uint64) []uint64 {
	for len(w) > 0 && w[len(w)-1] == 0 {
		w = w[:len(w)-1]
	}
	return w
}

// compare is -1, 0 or 1, as the size a is less than b, the same, or more.
func compare(a, b []uint64) int {
	if len(a) != len(b) {
		return cmp.Compare(len(a), len(b))
	}
	for i := range len(a) {
		k := len(a) - 1 - i
		if a[k] != b[k] {
			return cmp.Compare(a[k], b[k])
		}
	}
	return 0
}

// sum is a + b.
func sum(a, b []uint64) []uint64 {
	if len(a) < len(b) {
		a, b = b, a
	}
	out := make([]uint64, len(a)+1)
	copy(out, a)
	out[len(a)] = raise(out[:len(a)], b)
	return trim(out)
}

// difference is a - b, where b is not more than a.
func difference(a, b []uint64) []uint64 {
	out := make([]uint64, len(a))
	copy(out, a)
	lower(out, b)
	return trim(out)
}

// raise adds b to w, in w, which is at least as long; it answers what runs over.
func raise(w, b []uint64) uint64 {
	carry := uint64(0)
	for i := range len(b) {
		w[i], carry = bits.Add64(w[i], b[i], carry)
	}
	for i := len(b); carry != 0 && i < len(w); i++ {
		w[i], carry = bits.Add64(w[i], 0, carry)
	}
	return carry
}

// lower takes b from w, in w, which is not less.
func lower(w, b []uint64) {
	borrow := uint64(0)
	for i := range len(b) {
		w[i], borrow = bits.Sub64(w[i], b[i], borrow)
	}
	for i := len(b); borrow != 0 && i < len(w); i++ {
		w[i], borrow = bits.Sub64(w[i], 0, borrow)
	}
}

// product is a times b.
func product(a, b []uint64) []uint64 {
	out := make([]uint64, len(a)+len(b))
	for i := range len(a) {
		out[i+len(b)] = raiseTimes(out[i:i+len(b)], b, a[i])
	}
	return trim(out)
}

// raiseTimes adds b times by to w, in w, which is as long as b; it answers what runs over.
func raiseTimes(w, b []uint64, by uint64) uint64 {
	over := uint64(0)
	for i := range len(b) {
		high, low := bits.Mul64(b[i], by)
		var carry uint64
		low, carry = bits.Add64(low, over, 0)
		high += carry
		w[i], carry = bits.Add64(w[i], low, 0)
		over = high + carry
	}
	return over
}

// lowerTimes takes b times by from w, in w, which is as long as b; it answers what is missing above.
func lowerTimes(w, b []uint64, by uint64) uint64 {
	missing := uint64(0)
	for i := range len(b) {
		high, low := bits.Mul64(b[i], by)
		var carry uint64
		low, carry = bits.Add64(low, missing, 0)
		high += carry
		w[i], carry = bits.Sub64(w[i], low, 0)
		missing = high + carry
	}
	return missing
}

// divide is how often b, which is not 0, is in a, and the rest.
func divide(a, b []uint64) (parts, rest []uint64) {
	if compare(a, b) < 0 {
		return nil, a
	}
	if len(b) == 1 {
		parts = make([]uint64, len(a))
		copy(parts, a)
		last := divideWord(parts, b[0])
		return trim(parts), trim([]uint64{last})
	}
	return divideLong(a, b)
}

// divideWord divides w by one word, in w, and answers the rest.
func divideWord(w []uint64, by uint64) uint64 {
	rest := uint64(0)
	for i := range len(w) {
		k := len(w) - 1 - i
		w[k], rest = bits.Div64(rest, w[k], by)
	}
	return rest
}

// divideLong divides as one does on paper, with words as digits. Both are shifted first, so that b's highest bit is set: then the highest words tell each digit nearly.
func divideLong(a, b []uint64) (parts, rest []uint64) {
	shift := bits.LeadingZeros64(b[len(b)-1])
	by := trim(shiftUp(b, shift))
	rest = shiftUp(a, shift)
	n := len(by)
	parts = make([]uint64, len(rest)-n)
	for i := range len(parts) {
		k := len(parts) - 1 - i
		parts[k] = nextDigit(rest[k:k+n+1], by)
	}
	shiftDown(rest, shift)
	return trim(parts), trim(rest)
}

// nextDigit is how often by is in w, less than 2^64 times; it leaves the rest in w, which is one word longer than by.
func nextDigit(w, by []uint64) uint64 {
	n := len(by)
	digit := uint64(math.MaxUint64)
	if w[n] < by[n-1] {
		digit, _ = bits.Div64(w[n], w[n-1], by[n-1])
	}
	missing := lowerTimes(w[:n], by, digit)
	var below uint64
	w[n], below = bits.Sub64(w[n], missing, 0)
	for below != 0 { // the highest words may tell 1 or 2 too many
		digit--
		below -= raise(w, by)
	}
	return digit
}

// shiftUp is a times 2^by, one word longer than a; by is below 64.
func shiftUp(a []uint64, by int) []uint64 {
	out := make([]uint64, len(a)+1)
	for i := range len(a) {
		out[i] |= a[i] << by
		out[i+1] = a[i] >> (64 - by)
	}
	return out
}

// shiftDown divides w by 2^by, in w; by is below 64.
func shiftDown(w []uint64, by int) {
	for i := range len(w) {
		w[i] >>= by
		if i+1 < len(w) {
			w[i] |= w[i+1] << (64 - by)
		}
	}
}
