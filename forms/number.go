package forms

import (
	"strings"

	"optima/ratio"
	"optima/whole"
)

// decimal is a number's shortest decimal; false, if it has none with at most so many places.
func decimal(r ratio.R, most int) (string, bool) {
	places, ok := placesOf(r.Den(), most)
	if !ok {
		return "", false
	}
	scaled := r
	for range places {
		scaled = scaled.Mul(ratio.Int(10))
	}
	digits, below := strings.CutPrefix(scaled.Num().Text(), "-")
	if missing := places + 1 - len(digits); missing > 0 { // a digit stands ahead of the point
		digits = strings.Repeat("0", missing) + digits
	}
	text := digits
	if point := len(digits) - places; places > 0 {
		text = digits[:point] + "." + digits[point:]
	}
	if below {
		text = "-" + text
	}
	return text, true
}

// placesOf is how many places a decimal of that denominator needs; false, if these are more than most, or endless.
func placesOf(den whole.Z, most int) (int, bool) {
	left, twos := without(den, 2, most)
	left, fives := without(left, 5, most)
	return max(twos, fives), left.Cmp(whole.Of(1)) == 0
}

// without divides by a factor as often as it goes without rest, but at most so often.
func without(z whole.Z, factor int64, most int) (whole.Z, int) {
	for times := range most {
		quotient, rest, _ := z.DivMod(whole.Of(factor))
		if rest.Sign() != 0 {
			return z, times
		}
		z = quotient
	}
	return z, most
}
