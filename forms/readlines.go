package forms

import (
	"cmp"
	"slices"

	"optima/api"
	"optima/linear"
	"optima/ratio"
)

// part is a name in a sum, times a number.
type part struct {
	name string
	by   ratio.R
	line int
}

// lineSum is a sum as it stands: which names are columns is known only when all is read.
type lineSum struct {
	line    int // where it begins
	parts   []part
	numbers []ratio.R
}

// lineRow is a row whose sum stands as it was read.
type lineRow struct {
	name      string
	low, high linear.Bound
	sum       *lineSum
}

// lineReader is a text of the line format, and what has been read of it.
type lineReader struct {
	tokens   []token
	max      bool
	goal     *lineSum
	rows     []lineRow
	rowNamed map[string]int
	cols     []linear.Col
	colNamed map[string]int
}

func linesProblem(text string) *linear.Problem {
	r := &lineReader{tokens: tokensOf(text), rowNamed: map[string]int{}, colNamed: map[string]int{}}
	r.max = r.takes("maximize")
	if !r.max {
		r.expect("minimize")
	}
	r.goal = r.sum(false)
	r.expect("subject")
	r.expect("to")
	for r.next().kind == aName {
		r.row()
	}
	r.expect("bounds")
	for r.startsBound() {
		r.bound()
	}
	if r.takes("generals") {
		for r.next().kind == aName {
			r.general()
		}
	}
	r.expect("end")
	r.need(r.next().kind == anEnd, api.ErrText)
	return r.problem()
}

func (r *lineReader) next() token { return r.tokens[0] }

// need throws err at the line of the next token.
func (r *lineReader) need(right bool, err error) { needAt(r.next().line, right, err) }

// pass goes past the next token, which is not the end.
func (r *lineReader) pass() { r.tokens = r.tokens[1:] }

// takes goes past a word or a sign, if it is the next token.
func (r *lineReader) takes(mark string) bool {
	if !r.next().is(mark) {
		return false
	}
	r.pass()
	return true
}

func (r *lineReader) expect(mark string) { r.need(r.takes(mark), api.ErrText) }

func (r *lineReader) number() ratio.R {
	r.need(r.next().kind == aNumber, api.ErrText)
	value, err := ratio.Read(r.next().text)
	r.need(err == nil, api.ErrNumber)
	r.pass()
	return value
}

// sign is -1 of `-`, and 1 of `+` or nothing.
func (r *lineReader) sign() ratio.R {
	if r.takes("-") {
		return ratio.Int(-1)
	}
	r.takes("+")
	return ratio.Int(1)
}

func (r *lineReader) signed() linear.Bound { return bound(r.sign().Mul(r.number())) }

// sum reads a sum; rowEnd is whether a row may end with it, so that a name behind a number may be the next row's.
func (r *lineReader) sum(rowEnd bool) *lineSum {
	s := &lineSum{line: r.next().line}
	if r.takes("nought") {
		return s
	}
	seen := map[string]int{}
	for first := true; first || r.next().is("+") || r.next().is("-"); first = false {
		r.term(s, seen, rowEnd)
	}
	return s
}

func (r *lineReader) term(s *lineSum, seen map[string]int, rowEnd bool) {
	by := r.sign()
	if r.next().kind == aNumber {
		by = by.Mul(r.number())
		if r.next().kind != aName || rowEnd && r.atRow() {
			s.numbers = append(s.numbers, by)
			return
		}
	}
	name := r.next()
	r.need(name.kind == aName, api.ErrText)
	r.need(seen[name.text] == 0, api.ErrName)
	seen[name.text]++
	s.parts = append(s.parts, part{name.text, by, name.line})
	r.pass()
}

// atRow is whether a row begins with the name that is next: `:` stands behind no other one.
func (r *lineReader) atRow() bool { return r.tokens[1].is(":") }

// isNumbers is whether a sum has numbers alone, and is not nought.
func (s *lineSum) isNumbers() bool { return len(s.parts) == 0 && len(s.numbers) > 0 }

func (s *lineSum) number() ratio.R { return total(s.numbers) }

// total adds up by halves: one by one, the sum of many fractions would be long from early on.
func total(numbers []ratio.R) ratio.R {
	switch len(numbers) {
	case 0:
		return ratio.R{}
	case 1:
		return numbers[0]
	}
	half := len(numbers) / 2
	return total(numbers[:half]).Add(total(numbers[half:]))
}

func (r *lineReader) row() {
	row := lineRow{name: r.newName(r.rowNamed, api.MaxRows)}
	r.expect(":")
	row.sum = r.sum(false)
	if row.sum.isNumbers() && r.takes("<=") {
		row.low = bound(row.sum.number())
		row.sum = r.sum(true)
		row.high = r.upTo()
	} else {
		row.low, row.high = r.bounds()
	}
	needAt(row.sum.line, row.sum.number().Sign() == 0, api.ErrText)
	r.rows = append(r.rows, row)
}

// newName is the next token, a name that is not there yet, among so many at most. Each is kept with its place.
func (r *lineReader) newName(named map[string]int, most int) string {
	name := r.next()
	r.need(name.kind == aName, api.ErrText)
	_, there := named[name.text]
	r.need(!there, api.ErrName)
	r.need(len(named) < most, api.ErrBound)
	named[name.text] = len(named)
	r.pass()
	return name.text
}

// bounds are what stands behind a row's sum, or behind a column.
func (r *lineReader) bounds() (low, high linear.Bound) {
	switch {
	case r.takes("<="):
		high = r.signed()
	case r.takes(">="):
		low = r.signed()
	case r.takes("="):
		low = r.signed()
		high = low
	default:
		r.expect("free")
	}
	return low, high
}

// upTo is the high bound of what has its low one ahead; none, if it does not stand there.
func (r *lineReader) upTo() linear.Bound {
	if !r.takes("<=") {
		return linear.Bound{}
	}
	return r.signed()
}

func (r *lineReader) startsBound() bool {
	next := r.next()
	return next.kind == aName || next.kind == aNumber || next.is("+") || next.is("-")
}

func (r *lineReader) bound() {
	var col linear.Col
	if r.next().kind == aName {
		col.Name = r.newName(r.colNamed, api.MaxCols)
		col.Low, col.High = r.bounds()
	} else {
		col.Low = r.signed()
		r.expect("<=")
		col.Name = r.newName(r.colNamed, api.MaxCols)
		col.High = r.upTo()
	}
	r.cols = append(r.cols, col)
}

func (r *lineReader) general() {
	at, there := r.colNamed[r.next().text]
	r.need(there, api.ErrName)
	r.need(!r.cols[at].Whole, api.ErrText)
	r.cols[at].Whole = true
	r.pass()
}

func (r *lineReader) problem() *linear.Problem {
	p := &linear.Problem{Max: r.max, Shift: r.goal.number(), Cols: r.cols}
	for _, term := range r.terms(r.goal) {
		p.Cols[term.Col].Cost = term.By
	}
	for _, row := range r.rows {
		p.Rows = append(p.Rows, linear.Row{Name: row.name, Terms: r.terms(row.sum), Low: row.low, High: row.high})
	}
	return p
}

// terms are a sum's, by column, without those that are 0.
func (r *lineReader) terms(s *lineSum) []linear.Term {
	var terms []linear.Term
	for _, part := range s.parts {
		at, there := r.colNamed[part.name]
		needAt(part.line, there, api.ErrName)
		if part.by.Sign() != 0 {
			terms = append(terms, linear.Term{Col: at, By: part.by})
		}
	}
	slices.SortFunc(terms, func(a, b linear.Term) int { return cmp.Compare(a.Col, b.Col) })
	return terms
}
