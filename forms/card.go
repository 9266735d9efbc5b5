package forms

import (
	"slices"
	"strings"
)

// place is where a field stands in a line: its first byte, and the one behind its last, counted from 0.
type place struct {
	from, to int
	loose    bool // whether blanks ahead do not count either
}

var fieldPlaces = [6]place{
	{1, 3, true},
	{4, 12, false},
	{14, 22, false},
	{24, 36, true},
	{39, 47, false},
	{49, 61, true},
}

// card is a line's fields, each at its number, from 1 on. One that is empty is not there.
type card [7]string

// pair is the name of a row, or of the goal, and the text of a number.
type pair struct{ name, number string }

// cardOf parts a line into its fields; false, if something stands where nothing may.
func cardOf(line string) (card, bool) {
	var c card
	end := 0
	for i, p := range fieldPlaces {
		field := strings.TrimRight(piece(line, p.from, p.to), " ")
		if p.loose {
			field = strings.TrimLeft(field, " ")
		}
		if !allBytes(piece(line, end, p.from), isBlank) || !allBytes(field, isVisible) {
			return card{}, false
		}
		c[i+1] = field
		end = p.to
	}
	return c, allBytes(piece(line, end, len(line)), isBlank)
}

// piece is what a line has from one byte to ahead of another: a line may end early.
func piece(line string, from, to int) string {
	return line[min(from, len(line)):min(to, len(line))]
}

func isBlank(b byte) bool { return b == ' ' }

func isVisible(b byte) bool { return b >= '!' && b <= '~' }

// hasJust is whether a card has these fields and no others.
func (c card) hasJust(fields ...int) bool {
	for i, text := range c {
		if (text != "") != slices.Contains(fields, i) {
			return false
		}
	}
	return true
}

// hasPairs is whether a card has a name and pairs; field 5 tells whether these are two.
func (c card) hasPairs() bool {
	if c[5] != "" {
		return c.hasJust(2, 3, 4, 5, 6)
	}
	return c.hasJust(2, 3, 4)
}

// pairs are those of a card that has none, one or two.
func (c card) pairs() []pair {
	var list []pair
	for _, p := range []pair{{c[3], c[4]}, {c[5], c[6]}} {
		if p.name != "" {
			list = append(list, p)
		}
	}
	return list
}

// line is a card as a line that ends behind its last field.
func (c card) line() string {
	var line strings.Builder
	for i, p := range fieldPlaces {
		if c[i+1] != "" {
			line.WriteString(strings.Repeat(" ", p.from-line.Len()))
			line.WriteString(c[i+1])
		}
	}
	return line.String()
}
