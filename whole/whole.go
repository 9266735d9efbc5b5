// Package whole: whole numbers of any size: see ../shared/doc/01-whole.md.
package whole

import (
	"cmp"
	"math"
	"math/bits"
)

// Z is a whole number. The zero value is 0.
//
// Most numbers are small, so what an int64 can hold lies in near, and only the others have words. Each number has just one such form.
type Z struct {
	near  int64    // the number, if words is nil; else its sign, 1 or -1
	words []uint64 // the size of a number that no int64 can hold, the lowest word first; never changed
}

// Of is n as a Z.
func Of(n int64) Z { return Z{near: n} }

// Sign is -1, 0 or 1.
func (z Z) Sign() int { return cmp.Compare(z.near, 0) }

// Cmp is -1, 0 or 1, as z is less than o, the same, or more.
func (z Z) Cmp(o Z) int {
	if bothNear(z, o) {
		return cmp.Compare(z.near, o.near)
	}
	if z.Sign() != o.Sign() {
		return cmp.Compare(z.Sign(), o.Sign())
	}
	return z.Sign() * compare(z.size(), o.size())
}

// Neg is 0 - z.
func (z Z) Neg() Z {
	if z.words == nil && z.near != math.MinInt64 {
		return Of(-z.near)
	}
	return signed(-z.Sign(), z.size())
}

// Add is z + o.
func (z Z) Add(o Z) Z {
	if total := z.near + o.near; bothNear(z, o) && (total >= z.near) == (o.near >= 0) { // else it ran over
		return Of(total)
	}
	a, b := z.size(), o.size()
	if z.Sign() == o.Sign() {
		return signed(z.Sign(), sum(a, b))
	}
	if compare(a, b) >= 0 {
		return signed(z.Sign(), difference(a, b))
	}
	return signed(o.Sign(), difference(b, a))
}

// Sub is z - o.
func (z Z) Sub(o Z) Z { return z.Add(o.Neg()) }

// Mul is z times o.
func (z Z) Mul(o Z) Z {
	sign := z.Sign() * o.Sign()
	if !bothNear(z, o) {
		return signed(sign, product(z.size(), o.size()))
	}
	high, low := bits.Mul64(sizeOf(z.near), sizeOf(o.near))
	if high == 0 {
		return signedWord(sign, low)
	}
	return Z{near: int64(sign), words: []uint64{low, high}}
}

// DivMod is q and r, so that z is q times o and r, and r is from 0 on and below the size of o; false, if o is 0.
func (z Z) DivMod(o Z) (q, r Z, ok bool) {
	if o.Sign() == 0 {
		return Z{}, Z{}, false
	}
	q, r = z.cutOff(o)
	if r.Sign() >= 0 {
		return q, r, true
	}
	if o.Sign() > 0 {
		return q.Sub(Of(1)), r.Add(o), true
	}
	return q.Add(Of(1)), r.Sub(o), true
}

// Gcd is the greatest number that divides both; of 0 and 0 it is 0.
func (z Z) Gcd(o Z) Z {
	if bothNear(z, o) {
		return signedWord(1, commonWord(sizeOf(z.near), sizeOf(o.near)))
	}
	return signed(1, common(z.size(), o.size()))
}

// Int64 is the number, if an int64 can hold it; else 0, false.
func (z Z) Int64() (int64, bool) {
	if z.words != nil {
		return 0, false
	}
	return z.near, true
}

// cutOff divides as Go does: towards 0, with a rest of z's sign; o is not 0.
func (z Z) cutOff(o Z) (q, r Z) {
	if !bothNear(z, o) {
		parts, rest := divide(z.size(), o.size())
		return signed(z.Sign()*o.Sign(), parts), signed(z.Sign(), rest)
	}
	if o.near == -1 { // the least int64 has no opposite in an int64
		return z.Neg(), Z{}
	}
	return Of(z.near / o.near), Of(z.near % o.near)
}

func bothNear(a, b Z) bool { return a.words == nil && b.words == nil }

// size is how far z is from 0, as words.
func (z Z) size() []uint64 {
	if z.words != nil {
		return z.words
	}
	return trim([]uint64{sizeOf(z.near)})
}

// sizeOf turns the sign within uint64, where the least int64 has room too.
func sizeOf(n int64) uint64 {
	if n < 0 {
		return -uint64(n)
	}
	return uint64(n)
}

// signed is the number of that sign and size; it keeps the words.
func signed(sign int, size []uint64) Z {
	size = trim(size)
	switch len(size) {
	case 0:
		return Z{}
	case 1:
		return signedWord(sign, size[0])
	}
	return Z{near: int64(sign), words: size}
}

// signedWord is the number of that sign and of a size of one word.
func signedWord(sign int, size uint64) Z {
	if size <= math.MaxInt64 {
		return Of(int64(sign) * int64(size))
	}
	if sign < 0 && size == 1<<63 {
		return Of(math.MinInt64)
	}
	return Z{near: int64(sign), words: []uint64{size}}
}
