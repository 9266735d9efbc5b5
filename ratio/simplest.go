package ratio

import "optima/whole"

// Simplest is, of all fractions from low to high, the one of the least denominator, and of these that of the least size; false, if low is above high.
func Simplest(low, high R) (R, bool) {
	switch {
	case low.Cmp(high) > 0:
		return R{}, false
	case low.Sign() > 0:
		return simplestAbove(low, high), true
	case high.Sign() < 0:
		return simplestAbove(high.Neg(), low.Neg()).Neg(), true
	}
	return R{}, true
}

// simplestAbove is that of two above 0, low not above high.
//
// Where no whole number lies between both, each fraction there is the whole number below and 1 by another one, which lies between what is left of both, turned over; and the simplest of those makes the simplest one. So both are taken apart, like in Euclid's way, up to the first step that leaves a whole number between them.
func simplestAbove(low, high R) R {
	num, den, highNum, highDen := low.num, low.Den(), high.num, high.Den()
	links := newChain()
	for {
		below, rest, _ := num.DivMod(den)
		highBelow, highRest, _ := highNum.DivMod(highDen)
		if rest.Sign() == 0 {
			return links.then(below).fraction()
		}
		if highBelow.Cmp(below) > 0 {
			return links.then(below.Add(whole.Of(1))).fraction()
		}
		links = links.then(below)
		num, den, highNum, highDen = highDen, highRest, den, rest // turned over, the higher one is the lower one
	}
}

// chain is a number, and 1 by a number, and 1 by a number ..: as a fraction that has nothing to cancel, and how that was a step ago.
type chain struct {
	num, den, lastNum, lastDen whole.Z
}

func newChain() chain { return chain{num: whole.Of(1), lastDen: whole.Of(1)} }

// then is the chain with one number more.
func (c chain) then(n whole.Z) chain {
	return chain{
		num: n.Mul(c.num).Add(c.lastNum), den: n.Mul(c.den).Add(c.lastDen),
		lastNum: c.num, lastDen: c.den,
	}
}

// fraction is what a chain of one number or more is worth.
func (c chain) fraction() R { return lowest(c.num, c.den) }
