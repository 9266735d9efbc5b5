package forms

import (
	"slices"
	"strconv"
	"strings"

	"optima/api"
	"optima/linear"
	"optima/ratio"
)

// Field 4 has so many bytes; a decimal of these has no more places, as a digit and the point stand ahead.
const (
	fixedBytes  = 12
	fixedPlaces = fixedBytes - 2
)

// fixedWriter is a text of the fixed format as far as it is written.
//
// It is written as short as it goes, so that few problems are too long: numbers stand at the left, and cards have two pairs.
type fixedWriter struct {
	strings.Builder
	goal           string
	sides, reaches []pair // what is told behind the columns
}

func fixedText(p *linear.Problem) string {
	needFixed(p)
	w := &fixedWriter{goal: freeName(p.Rows)}
	if p.Max {
		w.section(headSense, card{2: "MAX"})
	}
	w.rows(p.Rows)
	w.columns(p)
	if p.Shift.Sign() != 0 {
		w.sides = append(w.sides, pair{w.goal, fixedNumber(p.Shift.Neg())})
	}
	w.section(headSides, pairCards("r", w.sides)...)
	w.section(headRanges, pairCards("r", w.reaches)...)
	w.bounds(p.Cols)
	w.head(headEnd)
	need(w.Len() <= api.MaxText, api.ErrBound)
	return w.String()
}

// needFixed throws what is wrong with a problem's names and rows, here.
func needFixed(p *linear.Problem) {
	for _, col := range p.Cols {
		need(isFixedName(col.Name), api.ErrName)
	}
	for _, row := range p.Rows {
		need(isFixedName(row.Name), api.ErrName)
	}
	for _, row := range p.Rows {
		need(!row.Low.Has || !row.High.Has || row.Low.At.Cmp(row.High.At) <= 0, api.ErrShape)
	}
}

func isFixedName(name string) bool {
	return len(name) <= api.MaxFixed && allBytes(name, isVisible) && !strings.HasPrefix(name, "'")
}

// freeName is a name that no row has.
func freeName(rows []linear.Row) string {
	n := 0
	for slices.ContainsFunc(rows, func(row linear.Row) bool { return row.Name == strconv.Itoa(n) }) {
		n++
	}
	return strconv.Itoa(n)
}

func (w *fixedWriter) head(head int) { w.WriteString(headWords[head] + "\n") }

// section is a head with its cards; nothing, if there are none.
func (w *fixedWriter) section(head int, cards ...card) {
	if len(cards) == 0 {
		return
	}
	w.head(head)
	for _, c := range cards {
		w.card(c)
	}
}

func (w *fixedWriter) card(c card) { w.WriteString(c.line() + "\n") }

// rows tells the goal and the rows, and keeps their sides and ranges for later.
func (w *fixedWriter) rows(rows []linear.Row) {
	cards := []card{{1: "N", 2: w.goal}}
	for _, row := range rows {
		kind, side, reach := rowForm(row)
		cards = append(cards, card{1: kind, 2: row.Name})
		if side != "" {
			w.sides = append(w.sides, pair{row.Name, side})
		}
		if reach != "" {
			w.reaches = append(w.reaches, pair{row.Name, reach})
		}
	}
	w.section(headRows, cards...)
}

// rowForm is a row's kind, and its side and its range, if these must stand.
func rowForm(row linear.Row) (kind, side, reach string) {
	low, high := row.Low.At, row.High.At
	switch {
	case !row.Low.Has && !row.High.Has:
		return "N", "", ""
	case !row.Low.Has:
		return "L", needed(sideText(high)), ""
	case !row.High.Has:
		return "G", needed(sideText(low)), ""
	case low.Cmp(high) == 0:
		return "E", needed(sideText(low)), ""
	}
	reach = fixedNumber(high.Sub(low))
	lower, lowGoes := sideText(low) // either of both may be the side, so one that goes is enough
	upper, highGoes := sideText(high)
	if lowGoes && (!highGoes || len(lower) <= len(upper)) {
		return "G", lower, reach
	}
	return "L", needed(upper, highGoes), reach
}

// sideText is a side's text, empty of 0, which need not stand; false, if it has none.
func sideText(side ratio.R) (string, bool) {
	if side.Sign() == 0 {
		return "", true
	}
	return shortDecimal(side)
}

// shortDecimal is a number's text in a field; false, if it has none that fits.
func shortDecimal(r ratio.R) (string, bool) {
	text, ok := decimal(r, fixedPlaces)
	return text, ok && len(text) <= fixedBytes
}

func needed(text string, there bool) string {
	need(there, api.ErrNumber)
	return text
}

func fixedNumber(r ratio.R) string { return needed(shortDecimal(r)) }

// columns tells the columns with their numbers, and markers around those that no kind of bound makes whole.
func (w *fixedWriter) columns(p *linear.Problem) {
	w.head(headColumns)
	numbers := numbersByColumn(p, w.goal)
	marked := false
	for i, col := range p.Cols {
		if marked != col.Whole && !isBinary(col) {
			w.mark(col.Whole)
			marked = col.Whole
		}
		cards := pairCards(col.Name, numbers[i])
		if len(cards) == 0 {
			cards = []card{{2: col.Name}}
		}
		for _, c := range cards {
			w.card(c)
		}
	}
	if marked {
		w.mark(false)
	}
}

func (w *fixedWriter) mark(whole bool) {
	turn := markerEnd
	if whole {
		turn = markerBegin
	}
	w.card(card{2: "M", 3: marker, 5: turn})
}

// isBinary is whether one bound of kind BV says all of a column's bounds, and that it is whole.
func isBinary(col linear.Col) bool {
	return col.Whole && col.Low.Has && col.High.Has && col.Low.At.Sign() == 0 && col.High.At.Cmp(ratio.Int(1)) == 0
}

// numbersByColumn are the pairs of each column: its cost, and its numbers in the rows.
func numbersByColumn(p *linear.Problem, goal string) [][]pair {
	pairs := make([][]pair, len(p.Cols))
	for i, col := range p.Cols {
		if col.Cost.Sign() != 0 {
			pairs[i] = append(pairs[i], pair{goal, fixedNumber(col.Cost)})
		}
	}
	for _, row := range p.Rows {
		for _, term := range row.Terms {
			pairs[term.Col] = append(pairs[term.Col], pair{row.Name, fixedNumber(term.By)})
		}
	}
	return pairs
}

// pairCards are the cards of one name with its pairs, two a card. The longer numbers stand first: there the next field's place is fixed, so their length costs nothing.
func pairCards(name string, pairs []pair) []card {
	slices.SortStableFunc(pairs, func(a, b pair) int { return len(b.number) - len(a.number) })
	var cards []card
	half := len(pairs) / 2
	for i := range half {
		first, second := pairs[i], pairs[half+i]
		cards = append(cards, card{2: name, 3: first.name, 4: first.number, 5: second.name, 6: second.number})
	}
	if len(pairs)%2 == 1 {
		last := pairs[2*half]
		cards = append(cards, card{2: name, 3: last.name, 4: last.number})
	}
	return cards
}

func (w *fixedWriter) bounds(cols []linear.Col) {
	var cards []card
	for _, col := range cols {
		tell := func(kind, number string) { cards = append(cards, card{1: kind, 2: "b", 3: col.Name, 4: number}) }
		switch low, high := col.Low, col.High; {
		case isBinary(col):
			tell("BV", "")
		case !low.Has && !high.Has:
			tell("FR", "")
		case low.Has && high.Has && low.At.Cmp(high.At) == 0:
			tell("FX", fixedNumber(low.At))
		default:
			tellLow(low, tell)
			if high.Has {
				tell("UP", fixedNumber(high.At))
			}
		}
	}
	w.section(headBounds, cards...)
}

// tellLow tells a low bound that is not 0, which every column has from the start.
func tellLow(low linear.Bound, tell func(kind, number string)) {
	if !low.Has {
		tell("MI", "")
	} else if low.At.Sign() != 0 {
		tell("LO", fixedNumber(low.At))
	}
}
