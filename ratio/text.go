package ratio

import (
	"strings"

	"optima/api"
	"optima/whole"
)

// Text is the numerator; if the denominator is not 1, `/` and that.
func (r R) Text() string {
	if r.IsWhole() {
		return r.num.Text()
	}
	return r.num.Text() + "/" + r.den.Text()
}

// Decimal is the nearest number with so many digits behind the point; of two the one whose last digit is even.
func (r R) Decimal(places int) string {
	places = min(max(places, 0), api.MaxPlaces)
	size := r
	if r.Sign() < 0 {
		size = r.Neg()
	}
	steps := nearest(size.num.Mul(tenTo(places)), size.Den())
	digits := steps.Text()
	digits = strings.Repeat("0", max(places+1-len(digits), 0)) + digits
	if r.Sign() < 0 && steps.Sign() > 0 {
		digits = "-" + digits
	}
	if places == 0 {
		return digits
	}
	point := len(digits) - places
	return digits[:point] + "." + digits[point:]
}

// nearest is the whole number that is nearest to num by den, neither below 0, den above; of two the even one.
func nearest(num, den whole.Z) whole.Z {
	below, rest, _ := num.DivMod(den)
	half := rest.Add(rest).Cmp(den)
	if half > 0 || half == 0 && isOdd(below) {
		return below.Add(whole.Of(1))
	}
	return below
}

func isOdd(z whole.Z) bool {
	_, rest, _ := z.DivMod(whole.Of(2))
	return rest.Sign() != 0
}
