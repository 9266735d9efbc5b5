package presolve

import (
	"optima/api"
	"optima/linear"
	"optima/ratio"
)

// rule is something that is tried at each column or row that is left.
type rule struct {
	left []bool
	does func(at int) bool
}

// rules stand in the order in which they are tried: those that cost least, and help the others most, first.
func (r *rest) rules() []rule {
	return []rule{
		{r.cols, r.crossedCol},
		{r.rows, r.crossedRow},
		{r.rows, r.empty},
		{r.rows, r.single},
		{r.cols, r.still},
		{r.cols, r.apart},
		{r.rows, r.reached},
		{r.rows, r.pair},
	}
}

// oneDoes is whether a rule did something: the first one that does, at the first place where it does.
func oneDoes(rules []rule) bool {
	for _, rule := range rules {
		for at, left := range rule.left {
			if left && rule.does(at) {
				return true
			}
		}
	}
	return false
}

func (r *rest) crossedCol(col int) bool {
	r.none = r.colSpan(col).crosses()
	return r.none
}

func (r *rest) crossedRow(row int) bool {
	r.none = r.rowSpan(row).crosses()
	return r.none
}

// empty: a row without terms is 0, whatever the point is.
func (r *rest) empty(row int) bool {
	if len(r.p.Rows[row].Terms) > 0 {
		return false
	}
	r.none = !only(ratio.R{}).within(r.rowSpan(row))
	r.rows[row] = false
	return true
}

// single: a row of one term is but bounds of its column.
func (r *rest) single(row int) bool {
	terms := r.p.Rows[row].Terms
	if len(terms) != 1 {
		return false
	}
	r.rows[row] = false
	r.tighten(terms[0].Col, r.rowSpan(row).times(undone(terms[0].By)))
	return true
}

// still: a column that its bounds leave one number stands there.
func (r *rest) still(col int) bool {
	c := r.p.Cols[col]
	if !r.colSpan(col).still() {
		return false
	}
	if c.Whole && !c.Low.At.IsWhole() {
		r.none = true
		return true
	}
	r.fix(col, c.Low.At)
	return true
}

// apart: a column that no row holds goes where it is best.
func (r *rest) apart(col int) bool {
	if r.used(col) {
		return false
	}
	r.tighten(col, r.colSpan(col))
	if r.colSpan(col).crosses() {
		r.none = true
		return true
	}
	best := r.best(r.p.Cols[col])
	if best.Has {
		r.fix(col, best.At)
	}
	return best.Has
}

// best is where a column is best that is held by its own bounds alone.
func (r *rest) best(c linear.Col) linear.Bound {
	good := c.Cost.Sign()
	if r.p.Max {
		good = -good
	}
	switch {
	case good > 0, good == 0 && c.Low.Has:
		return c.Low
	case good < 0, c.High.Has:
		return c.High
	}
	return linear.Bound{Has: true}
}

// reached: a row is held against the least and the most that its columns' bounds let it be.
func (r *rest) reached(row int) bool {
	if r.idle[row] {
		return false
	}
	asked, can := r.rowSpan(row), r.reach(row)
	switch {
	case above(can.low, asked.high), above(asked.low, can.high):
		r.none = true
	case same(can.low, asked.high):
		r.press(row, 1)
	case same(can.high, asked.low):
		r.press(row, -1)
	case !can.within(asked):
		r.idle[row] = true
		return false
	}
	r.rows[row] = false
	return true
}

// reach is the least and the most that a row's sum can be.
func (r *rest) reach(row int) span {
	out := only(ratio.R{})
	for _, t := range r.p.Rows[row].Terms {
		out = out.plus(r.colSpan(t.Col).times(t.By))
	}
	return out
}

// press leaves each column of a row the one bound that makes the row least (most, if side is -1).
func (r *rest) press(row, side int) {
	for _, t := range r.p.Rows[row].Terms {
		c := &r.p.Cols[t.Col]
		if t.By.Sign() == side {
			c.High = c.Low
		} else {
			c.Low = c.High
		}
		r.changed(t.Col)
	}
}

// pair: of two columns that one equation ties together the second follows from the first.
func (r *rest) pair(row int) bool {
	terms := r.p.Rows[row].Terms
	if len(terms) != 2 || !r.rowSpan(row).still() {
		return false
	}
	first, second := terms[0], terms[1]
	if r.p.Cols[first.Col].Whole || r.p.Cols[second.Col].Whole {
		return false
	}
	r.rows[row] = false
	at := r.p.Rows[row].Low.At.Mul(undone(second.By))
	by := first.By.Mul(undone(second.By)).Neg()
	r.tighten(first.Col, r.colSpan(second.Col).plus(only(at.Neg())).times(undone(by)))
	r.put(Step{Kind: api.StepBack, Col: second.Col, At: at, Terms: []linear.Term{{Col: first.Col, By: by}}})
	return true
}

// undone is 1 divided by a number that is not 0.
func undone(by ratio.R) ratio.R {
	out, _ := ratio.Int(1).Quo(by)
	return out
}
