package forms

import (
	"strings"

	"optima/api"
	"optima/linear"
	"optima/ratio"
)

// The heads, in the order in which they stand.
const (
	noHead = iota
	headName
	headSense
	headRows
	headColumns
	headSides
	headRanges
	headBounds
	headEnd
)

var headWords = [...]string{"", "NAME", "OBJSENSE", "ROWS", "COLUMNS", "RHS", "RANGES", "BOUNDS", "ENDATA"}

// The fields of a marker.
const (
	marker      = "'MARKER'"
	markerBegin = "'INTORG'"
	markerEnd   = "'INTEND'"
)

// fixedRow is a row, or the goal, as far as it is told.
type fixedRow struct {
	linear.Row
	kind        string
	side, reach linear.Bound // those that are told
	lately      int          // the number of columns when a number of it was told last
}

// fixedCol is a column, and which of its bounds are told.
type fixedCol struct {
	linear.Col
	lowTold, highTold bool
}

// fixedReader is what has been read of a text of the fixed format.
type fixedReader struct {
	line, head int
	max        bool
	senseTold  bool
	rows       []*fixedRow // the goal is the first one
	rowNamed   map[string]*fixedRow
	cols       []*fixedCol
	colNamed   map[string]*fixedCol
	whole      bool // whether columns that begin are whole
	marked     bool // whether a marker stands behind the last column's card
}

func fixedProblem(text string) *linear.Problem {
	r := &fixedReader{rowNamed: map[string]*fixedRow{}, colNamed: map[string]*fixedCol{}}
	for i, line := range strings.Split(text, "\n") {
		r.line = i + 1
		if line != "" {
			r.take(line)
		}
	}
	r.need(r.head == headEnd, api.ErrText)
	return r.problem()
}

// need throws err at the line that is read.
func (r *fixedReader) need(right bool, err error) { needAt(r.line, right, err) }

// take reads a line that is not empty.
func (r *fixedReader) take(line string) {
	r.need(r.head != headEnd, api.ErrText)
	switch line[0] {
	case '*':
	case ' ':
		c, ok := cardOf(line)
		r.need(ok, api.ErrText)
		r.card(c)
	default:
		r.nextHead(line)
	}
}

func (r *fixedReader) nextHead(line string) {
	word, rest, _ := strings.Cut(line, " ")
	head := headOf(word)
	r.need(head > r.head, api.ErrText)
	r.need(head == headName || allBytes(rest, isBlank), api.ErrText)
	r.need(head <= headRows || len(r.rows) > 0, api.ErrText)
	r.need(head <= headColumns || r.head >= headColumns && !r.whole, api.ErrText)
	r.head = head
}

func headOf(word string) int {
	for head, text := range headWords {
		if text == word {
			return head
		}
	}
	return noHead
}

func (r *fixedReader) card(c card) {
	switch r.head {
	case headSense:
		r.sense(c)
	case headRows:
		r.row(c)
	case headColumns:
		r.column(c)
	case headSides:
		r.sides(c)
	case headRanges:
		r.ranges(c)
	case headBounds:
		r.bound(c)
	default:
		r.need(false, api.ErrText)
	}
}

func (r *fixedReader) sense(c card) {
	r.need(c.hasJust(2) && (c[2] == "MAX" || c[2] == "MIN") && !r.senseTold, api.ErrText)
	r.max, r.senseTold = c[2] == "MAX", true
}

func (r *fixedReader) row(c card) {
	r.need(c.hasJust(1, 2) && isRowKind(c[1]), api.ErrText)
	r.need(len(r.rows) > 0 || c[1] == "N", api.ErrText)
	r.need(r.rowNamed[c[2]] == nil, api.ErrName)
	r.need(len(r.rows) <= api.MaxRows, api.ErrBound) // the goal is none of them
	row := &fixedRow{kind: c[1]}
	row.Name = c[2]
	r.rows = append(r.rows, row)
	r.rowNamed[row.Name] = row
}

func isRowKind(text string) bool {
	return text == "N" || text == "L" || text == "G" || text == "E"
}

func (r *fixedReader) column(c card) {
	if c[3] == marker {
		r.mark(c)
		return
	}
	r.need(c.hasJust(2) || c.hasPairs(), api.ErrText)
	r.goOn(c[2])
	col := r.cols[len(r.cols)-1]
	for _, p := range c.pairs() {
		by := r.number(p.number)
		r.need(by.Sign() != 0, api.ErrNumber)
		row := r.rowOrGoal(p.name)
		r.need(row.lately != len(r.cols), api.ErrText)
		row.lately = len(r.cols)
		if row == r.rows[0] {
			col.Cost = by
		} else {
			row.Terms = append(row.Terms, linear.Term{Col: len(r.cols) - 1, By: by})
		}
	}
}

// mark reads a marker: columns are whole from here on, or no more.
func (r *fixedReader) mark(c card) {
	r.need(c.hasJust(2, 3, 5), api.ErrText)
	turn := markerBegin
	if r.whole {
		turn = markerEnd
	}
	r.need(c[5] == turn, api.ErrText)
	r.whole = !r.whole
	r.marked = true
}

// goOn is with the last column, or with a new one, if that has another name.
func (r *fixedReader) goOn(name string) {
	if n := len(r.cols); n > 0 && r.cols[n-1].Name == name {
		r.need(!r.marked, api.ErrText)
		return
	}
	r.need(r.colNamed[name] == nil, api.ErrName)
	r.need(len(r.cols) < api.MaxCols, api.ErrBound)
	col := &fixedCol{}
	col.Name, col.Whole, col.Low = name, r.whole, bound(ratio.R{})
	r.cols = append(r.cols, col)
	r.colNamed[name] = col
	r.marked = false
}

// number is that of a field: there are no fractions here.
func (r *fixedReader) number(text string) ratio.R {
	value, err := ratio.Read(text)
	r.need(err == nil && !strings.Contains(text, "/"), api.ErrNumber)
	return value
}

// rowOrGoal is what has that name.
func (r *fixedReader) rowOrGoal(name string) *fixedRow {
	row := r.rowNamed[name]
	r.need(row != nil, api.ErrName)
	return row
}

// rowAlone is the row of that name: the goal is kept beside the rows, but is none of them.
func (r *fixedReader) rowAlone(name string) *fixedRow {
	row := r.rowOrGoal(name)
	r.need(row != r.rows[0], api.ErrName)
	return row
}

func (r *fixedReader) sides(c card) {
	r.need(c.hasPairs(), api.ErrText)
	for _, p := range c.pairs() {
		at := r.number(p.number)
		row := r.rowOrGoal(p.name)
		r.need(row == r.rows[0] || row.kind != "N", api.ErrText)
		r.need(!row.side.Has, api.ErrText)
		row.side = bound(at)
	}
}

func (r *fixedReader) ranges(c card) {
	r.need(c.hasPairs(), api.ErrText)
	for _, p := range c.pairs() {
		at := r.number(p.number)
		row := r.rowAlone(p.name)
		r.need(row.kind != "N" && !row.reach.Has, api.ErrText)
		row.reach = bound(at)
	}
}

func (r *fixedReader) bound(c card) {
	numbered := c[1] == "LO" || c[1] == "UP" || c[1] == "FX"
	r.need(numbered && c.hasJust(1, 2, 3, 4) || !numbered && c.hasJust(1, 2, 3), api.ErrText)
	col := r.colNamed[c[3]]
	r.need(col != nil, api.ErrName)
	var at linear.Bound
	if numbered {
		at = bound(r.number(c[4]))
	}
	low, high := boundsOf(c[1], at)
	r.need(low != nil || high != nil, api.ErrText)
	r.need((low == nil || !col.lowTold) && (high == nil || !col.highTold), api.ErrText)
	if low != nil {
		col.Low, col.lowTold = *low, true
	}
	if high != nil {
		col.High, col.highTold = *high, true
	}
	col.Whole = col.Whole || c[1] == "BV"
}

// boundsOf are the bounds that a card of that kind tells; nil is one that it does not speak of.
func boundsOf(kind string, at linear.Bound) (low, high *linear.Bound) {
	none, nought, one := linear.Bound{}, bound(ratio.R{}), bound(ratio.Int(1))
	switch kind {
	case "LO":
		return &at, nil
	case "UP":
		return nil, &at
	case "FX":
		return &at, &at
	case "FR":
		return &none, &none
	case "MI":
		return &none, nil
	case "PL":
		return nil, &none
	case "BV":
		return &nought, &one
	}
	return nil, nil
}

func (r *fixedReader) problem() *linear.Problem {
	p := &linear.Problem{Max: r.max, Shift: r.rows[0].side.At.Neg()}
	for _, col := range r.cols {
		p.Cols = append(p.Cols, col.Col)
	}
	for _, row := range r.rows[1:] {
		row.Low, row.High = row.bounds()
		p.Rows = append(p.Rows, row.Row)
	}
	return p
}

// bounds are what a row's kind makes of its side and its range.
func (row *fixedRow) bounds() (low, high linear.Bound) {
	side := bound(row.side.At)
	switch row.kind {
	case "L":
		return row.far(-1), side
	case "G":
		return side, row.far(1)
	case "E":
		if row.reach.At.Sign() < 0 {
			return row.far(-1), side
		}
		return side, bound(side.At.Add(row.reach.At))
	}
	return linear.Bound{}, linear.Bound{}
}

// far is the bound that lies a range's size above the side (way 1) or below it (way -1); none, if no range is told.
func (row *fixedRow) far(way int) linear.Bound {
	if !row.reach.Has {
		return linear.Bound{}
	}
	if row.reach.At.Sign() == way {
		return bound(row.side.At.Add(row.reach.At))
	}
	return bound(row.side.At.Sub(row.reach.At))
}
