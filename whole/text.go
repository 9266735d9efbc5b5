package whole

import (
	"slices"
	"strconv"
	"strings"

	"optima/api"
)

// Digits are read and told in groups, as many as one word can hold.
const (
	groupDigits = 19
	groupSize   = 10000000000000000000 // 10^groupDigits
)

// Read is the number that a text says: `-` or nothing, then digits.
func Read(text string) (Z, error) {
	digits, minus := strings.CutPrefix(text, "-")
	if at, err := wrongDigit(digits); err != nil {
		return Z{}, &api.Fault{At: len(text) - len(digits) + at, Err: err}
	}
	z := readDigits(digits)
	if minus {
		return z.Neg(), nil
	}
	return z, nil
}

// wrongDigit is the first place that is wrong, and what is wrong there; nil, if nothing is.
func wrongDigit(digits string) (int, error) {
	for i := range len(digits) {
		if digits[i] < '0' || digits[i] > '9' {
			return i, api.ErrText
		}
		if i == api.MaxDigits {
			return i, api.ErrBound
		}
	}
	if digits == "" {
		return 0, api.ErrText
	}
	return 0, nil
}

// readDigits is the number of digits alone. The first group is what the others, all full, leave.
func readDigits(digits string) Z {
	first := len(digits) % groupDigits
	z := readGroup(digits[:first])
	full := signedWord(1, groupSize)
	for i := range len(digits) / groupDigits {
		from := first + i*groupDigits
		z = z.Mul(full).Add(readGroup(digits[from : from+groupDigits]))
	}
	return z
}

// readGroup is the number of at most groupDigits digits.
func readGroup(digits string) Z {
	n := uint64(0)
	for i := range len(digits) {
		n = n*10 + uint64(digits[i]-'0')
	}
	return signedWord(1, n)
}

// Text is `-`, if z is below 0; then its digits without zeros ahead.
func (z Z) Text() string {
	if z.words == nil {
		return strconv.FormatInt(z.near, 10)
	}
	var out strings.Builder
	if z.Sign() < 0 {
		out.WriteByte('-')
	}
	groups := groupsOf(z.words)
	for i := range len(groups) {
		digits := strconv.FormatUint(groups[len(groups)-1-i], 10)
		if i > 0 {
			out.WriteString(strings.Repeat("0", groupDigits-len(digits)))
		}
		out.WriteString(digits)
	}
	return out.String()
}

// groupsOf is a size in groups of digits, the lowest first.
func groupsOf(size []uint64) []uint64 {
	var groups []uint64
	left := slices.Clone(size)
	for len(left) > 0 {
		groups = append(groups, divideWord(left, groupSize))
		left = trim(left)
	}
	return groups
}
