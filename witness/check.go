package witness

import (
	"slices"

	"optima/api"
	"optima/linear"
	"optima/ratio"
)

// Check is whether a claim shows itself.
func Check(p *linear.Problem, c Claim) (bool, error) {
	if err := linear.Valid(p); err != nil {
		return false, err
	}
	switch c.Kind {
	case api.Best:
		return showsBest(p, c), nil
	case api.None:
		return showsNone(p, c), nil
	case api.Endless:
		return showsEndless(p, c), nil
	}
	return false, nil
}

// showsBest is whether a point holds and costs just what prices say that none can better. As p is valid, an error tells that a list has another length.
func showsBest(p *linear.Problem, c Claim) bool {
	if len(c.Ray) > 0 || !holds(p, c.X) {
		return false
	}
	value, err := linear.Value(p, c.X)
	if err != nil || value.Cmp(c.Value) != 0 {
		return false
	}
	limit, ends, err := Limit(p, c.Y)
	return err == nil && ends && limit.Cmp(c.Value) == 0
}

func showsNone(p *linear.Problem, c Claim) bool {
	if len(c.X) > 0 || len(c.Ray) > 0 || c.Value.Sign() != 0 {
		return false
	}
	if len(c.Y) == 0 && someCross(p) {
		return true
	}
	return len(c.Y) == len(p.Rows) && apart(p, c.Y)
}

// someCross is whether a column or a row has its low bound above its high one.
func someCross(p *linear.Problem) bool {
	cross := func(low, high linear.Bound) bool {
		return low.Has && high.Has && low.At.Cmp(high.At) > 0
	}
	return slices.ContainsFunc(p.Cols, func(c linear.Col) bool { return cross(c.Low, c.High) }) ||
		slices.ContainsFunc(p.Rows, func(r linear.Row) bool { return cross(r.Low, r.High) })
}

// apart is whether the rows' sums, at their prices, come to more by the rows' bounds than they can by the columns'.
func apart(p *linear.Problem, y []ratio.R) bool {
	addRow, leastOfRows := edge(false)
	addRows(p, y, addRow)
	addCol, mostOfCols := edge(true)
	addCols(p, paid(p, y), addCol)
	least, below := leastOfRows()
	most, above := mostOfCols()
	return below && above && least.Cmp(most) > 0
}

// showsEndless is whether a point holds from which one can go on along the ray without end, and each step is better.
func showsEndless(p *linear.Problem, c Claim) bool {
	if len(c.Y) > 0 || c.Value.Sign() != 0 || len(c.Ray) != len(p.Cols) || !holds(p, c.X) {
		return false
	}
	open := func(way ratio.R, low, high linear.Bound) bool {
		return !(way.Sign() > 0 && high.Has) && !(way.Sign() < 0 && low.Has)
	}
	var gain ratio.R
	for i, col := range p.Cols {
		if !open(c.Ray[i], col.Low, col.High) {
			return false
		}
		gain = gain.Add(col.Cost.Mul(c.Ray[i]))
	}
	for _, row := range p.Rows {
		if !open(linear.Sum(row.Terms, c.Ray), row.Low, row.High) {
			return false
		}
	}
	if p.Max {
		return gain.Sign() > 0
	}
	return gain.Sign() < 0
}

// holds is whether x is a point that keeps all bounds, whole or not.
func holds(p *linear.Problem, x []ratio.R) bool {
	ok, err := linear.Holds(p, x, false)
	return err == nil && ok
}
