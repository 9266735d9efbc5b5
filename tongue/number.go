package tongue

import (
	"strconv"
	"strings"

	"optima/api"
	"optima/ratio"
)

// Number is the number whose Text a node's Word is; false, if it is the Text of none that a tree may have.
func Number(word string) (ratio.R, bool) {
	size, below := strings.CutPrefix(word, "-")
	top, bottom, parted := strings.Cut(size, "/")
	value, ok := wholeNumber(top), true
	if parted {
		value, ok = value.Quo(wholeNumber(bottom))
	}
	if below {
		value = value.Neg()
	}
	if !ok || value.Text() != word {
		return ratio.R{}, false
	}
	return value, true
}

// wholeNumber reads digits; of anything else it is a number that has another Text. A numerator may have MaxPlaces more than ratio.Read takes one behind the other: a point and an exponent part them.
func wholeNumber(digits string) ratio.R {
	if more := len(digits) - api.MaxDigits; more > 0 {
		digits = digits[:api.MaxDigits] + "." + digits[api.MaxDigits:] + "e" + strconv.Itoa(more)
	}
	value, _ := ratio.Read(digits)
	return value
}
