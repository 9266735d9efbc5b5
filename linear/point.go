package linear

import (
	"optima/api"
	"optima/ratio"
)

// Sum is what terms come to at a point. A column that the point has not counts as 0.
func Sum(l []Term, x []ratio.R) ratio.R {
	var total ratio.R
	for _, term := range l {
		if term.Col >= 0 && term.Col < len(x) {
			total = total.Add(term.By.Mul(x[term.Col]))
		}
	}
	return total
}

// Value is what a point costs, with Shift.
func Value(p *Problem, x []ratio.R) (ratio.R, error) {
	if err := fits(p, x); err != nil {
		return ratio.R{}, err
	}
	total := p.Shift
	for i, col := range p.Cols {
		total = total.Add(col.Cost.Mul(x[i]))
	}
	return total, nil
}

// Holds is whether a point keeps all bounds, and, if whole is asked, is whole in the whole columns.
func Holds(p *Problem, x []ratio.R, whole bool) (bool, error) {
	if err := fits(p, x); err != nil {
		return false, err
	}
	for i, col := range p.Cols {
		if !within(x[i], col.Low, col.High) || whole && col.Whole && !x[i].IsWhole() {
			return false, nil
		}
	}
	for _, row := range p.Rows {
		if !within(Sum(row.Terms, x), row.Low, row.High) {
			return false, nil
		}
	}
	return true, nil
}

// fits tells what is wrong with a problem, or with a point as one of its points.
func fits(p *Problem, x []ratio.R) error {
	if err := Valid(p); err != nil {
		return err
	}
	if len(x) != len(p.Cols) {
		return api.ErrShape
	}
	return nil
}

func within(number ratio.R, low, high Bound) bool {
	return !(low.Has && number.Cmp(low.At) < 0) && !(high.Has && number.Cmp(high.At) > 0)
}
