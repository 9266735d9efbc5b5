package nets

import (
	"optima/ratio"
	"optima/whole"
)

// parts is into how many parts 1 is cut, so that fractions are whole numbers of parts: these are added and compared without looking for common divisors, which takes long where numbers are.
type parts struct{ of whole.Z }

// partsOf is the least number of parts by which all numbers of the lists are whole.
func partsOf(lists ...[]ratio.R) parts {
	of := whole.Of(1)
	for _, list := range lists {
		for _, r := range list {
			of = multiple(of, r.Den())
		}
	}
	return parts{of}
}

// multiple is the least number that both divide; they are above 0.
func multiple(a, b whole.Z) whole.Z {
	if _, rest, _ := a.DivMod(b); rest.Sign() == 0 { // as it mostly is
		return a
	}
	more, _, _ := b.DivMod(a.Gcd(b))
	return a.Mul(more)
}

// count is how many parts a number is.
func (p parts) count(r ratio.R) whole.Z {
	by, _, _ := p.of.DivMod(r.Den())
	return r.Num().Mul(by)
}

func (p parts) counts(list []ratio.R) []whole.Z { return each(list, p.count) }

// fraction is the number that so many parts are.
func (p parts) fraction(count whole.Z) ratio.R {
	r, _ := ratio.Of(count, p.of)
	return r
}
