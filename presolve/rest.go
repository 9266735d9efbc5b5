package presolve

import (
	"slices"

	"optima/api"
	"optima/linear"
	"optima/ratio"
)

// rest is what is left of a problem while rules make it smaller. Columns and rows keep their numbers until the end.
type rest struct {
	p     *linear.Problem
	cols  []bool // which columns are left
	rows  []bool
	idle  []bool // rows that were held against their columns' bounds for nothing, when neither has changed since
	steps []Step
	none  bool
}

func restOf(p *linear.Problem) *rest {
	r := &rest{
		p:    linear.Twin(p),
		cols: make([]bool, len(p.Cols)),
		rows: make([]bool, len(p.Rows)),
		idle: make([]bool, len(p.Rows)),
	}
	for col := range r.cols {
		r.cols[col] = true
	}
	for row := range r.rows {
		r.rows[row] = true
	}
	return r
}

func (r *rest) colSpan(col int) span { return span{r.p.Cols[col].Low, r.p.Cols[col].High} }

func (r *rest) rowSpan(row int) span { return span{r.p.Rows[row].Low, r.p.Rows[row].High} }

// tighten leaves a column no more than a span.
func (r *rest) tighten(col int, to span) {
	c := &r.p.Cols[col]
	if c.Whole {
		to = to.inward()
	}
	if !r.colSpan(col).within(span{low: to.low}) {
		c.Low = to.low
	}
	if !r.colSpan(col).within(span{high: to.high}) {
		c.High = to.high
	}
	r.changed(col)
}

// changed wakes the rows that a column stands in.
func (r *rest) changed(col int) {
	for row := range r.idle {
		if _, in := r.place(row, col); in {
			r.idle[row] = false
		}
	}
}

// place is where a row's term of a column is, or would be.
func (r *rest) place(row, col int) (int, bool) {
	return slices.BinarySearchFunc(r.p.Rows[row].Terms, col, func(t linear.Term, col int) int { return t.Col - col })
}

// used is whether a column stands in a row that is left.
func (r *rest) used(col int) bool {
	for row, left := range r.rows {
		if !left {
			continue
		}
		if _, in := r.place(row, col); in {
			return true
		}
	}
	return false
}

func (r *rest) fix(col int, at ratio.R) {
	r.put(Step{Kind: api.StepFixed, Col: col, At: at})
}

// put takes a column out, and lets what it is made of stand in its place.
func (r *rest) put(s Step) {
	r.cols[s.Col] = false
	r.steps = append(r.steps, s)
	cost := r.p.Cols[s.Col].Cost
	r.p.Shift = r.p.Shift.Add(cost.Mul(s.At))
	for _, t := range s.Terms {
		r.p.Cols[t.Col].Cost = r.p.Cols[t.Col].Cost.Add(cost.Mul(t.By))
	}
	for row, left := range r.rows {
		if left {
			r.replace(row, s)
		}
	}
}

func (r *rest) replace(row int, s Step) {
	at, in := r.place(row, s.Col)
	if !in {
		return
	}
	line := &r.p.Rows[row]
	by := line.Terms[at].By
	line.Terms = slices.Delete(line.Terms, at, at+1)
	moved := r.rowSpan(row).plus(only(by.Mul(s.At).Neg()))
	line.Low, line.High = moved.low, moved.high
	for _, t := range s.Terms {
		r.add(row, linear.Term{Col: t.Col, By: by.Mul(t.By)})
	}
	r.idle[row] = false
}

// add adds a term to a row; terms that come to nothing are none.
func (r *rest) add(row int, t linear.Term) {
	line := &r.p.Rows[row]
	at, in := r.place(row, t.Col)
	if !in {
		line.Terms = slices.Insert(line.Terms, at, t)
		return
	}
	line.Terms[at].By = line.Terms[at].By.Add(t.By)
	if line.Terms[at].By.Sign() == 0 {
		line.Terms = slices.Delete(line.Terms, at, at+1)
	}
}

// small is the problem that is left, and which columns it has.
func (r *rest) small() (*linear.Problem, []int) {
	out := &linear.Problem{Max: r.p.Max, Shift: r.p.Shift}
	var cols []int
	number := make([]int, len(r.cols))
	for col, left := range r.cols {
		if left {
			number[col] = len(cols)
			cols = append(cols, col)
			out.Cols = append(out.Cols, r.p.Cols[col])
		}
	}
	for row, left := range r.rows {
		if !left {
			continue
		}
		line := r.p.Rows[row]
		for i, t := range line.Terms {
			line.Terms[i].Col = number[t.Col]
		}
		out.Rows = append(out.Rows, line)
	}
	return out, cols
}
