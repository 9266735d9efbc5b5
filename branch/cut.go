package branch

import (
	"slices"

	"optima/api"
	"optima/cuts"
	"optima/linear"
	"optima/ratio"
	"optima/whole"
	"optima/witness"
)

// cut is a row that a point does not keep.
type cut struct {
	y    []ratio.R // how many times each row is in it
	row  linear.Row
	over ratio.R // how far the point is above it
	size ratio.R // the squares of its numbers together
}

// cutOf is what rows come to, each so many times; false: nothing that the point does not keep.
func cutOf(p *linear.Problem, x, y []ratio.R) (cut, bool) {
	row, err := cuts.Combine(p, y)
	if err != nil {
		return cut{}, false
	}
	c := cut{y: y, row: row, over: linear.Sum(row.Terms, x).Sub(row.High.At)}
	for _, t := range row.Terms {
		c.size = c.size.Add(t.By.Mul(t.By))
	}
	return c, c.over.Sign() > 0
}

// order is below 0, if the point is further from one row than from another.
func (c cut) order(o cut) int {
	return o.over.Mul(o.over).Mul(c.size).Cmp(c.over.Mul(c.over).Mul(o.size))
}

// same is whether two rows are of the same terms.
func (c cut) same(o cut) bool {
	return slices.EqualFunc(c.row.Terms, o.row.Terms, func(a, b linear.Term) bool { return a.Col == b.Col && a.By.Cmp(b.By) == 0 })
}

// mixes is how many times each row may be taken, so that what comes out, rounded, may be a row that the run's best point does not keep.
func (s *search) mixes(p *linear.Problem, claim witness.Claim) [][]ratio.R {
	var out [][]ratio.R
	if s.step.Sign() != 0 {
		out = append(out, s.costMix(claim.Y))
	}
	where := s.run.Where()[len(p.Cols):]
	grids := make([]ratio.R, len(p.Rows))
	for i, row := range p.Rows {
		grids[i] = grid(p, row.Terms)
		if grids[i].Sign() != 0 && where[i] != api.Basic {
			alone := make([]ratio.R, len(p.Rows))
			alone[i], _ = ratio.Int(1).Quo(grids[i])
			out = append(out, alone, negated(alone))
		}
	}
	for i, col := range p.Cols {
		if !col.Whole || claim.X[i].IsWhole() {
			continue
		}
		if by := s.run.By(i); by != nil { // else it stands at a bound that is not whole
			by = by[len(p.Cols):]
			out = append(out, turned(by, where, grids), turned(negated(by), where, grids))
		}
	}
	return out
}

// costMix makes of prices how many times each row is taken, so that what comes out is the costs by their step, at most something.
func (s *search) costMix(prices []ratio.R) []ratio.R {
	out := make([]ratio.R, len(prices))
	for i, price := range prices {
		out[i], _ = price.Quo(s.step)
	}
	return out
}

// turned takes a row other times, such that the bound counts where its sum stands; what is left out by rounding stays the same.
func turned(by []ratio.R, where []int, grids []ratio.R) []ratio.R {
	out := make([]ratio.R, len(by))
	for i, times := range by {
		out[i] = times
		steps := times.Mul(grids[i])
		if steps.Sign() == 0 {
			continue
		}
		rest := steps.Sub(floor(steps))
		if where[i] == api.Low && rest.Sign() != 0 {
			rest = rest.Sub(ratio.Int(1))
		}
		out[i], _ = rest.Quo(grids[i])
	}
	return out
}

func negated(list []ratio.R) []ratio.R {
	out := make([]ratio.R, len(list))
	for i, r := range list {
		out[i] = r.Neg()
	}
	return out
}

// costStep is a number by whole multiples of which whole points' costs differ; 0, if they may differ by anything. It is below 0, if the least is looked for: so it is the price of a row that says what the costs by it are at most.
func costStep(p *linear.Problem) ratio.R {
	var terms []linear.Term
	for i, col := range p.Cols {
		if col.Cost.Sign() != 0 {
			terms = append(terms, linear.Term{Col: i, By: col.Cost})
		}
	}
	step := grid(p, terms)
	if !p.Max {
		step = step.Neg()
	}
	return step
}

// grid is the greatest number of which terms are a whole multiple at all whole points; 0, if there is none.
func grid(p *linear.Problem, terms []linear.Term) ratio.R {
	num, den := whole.Z{}, whole.Of(1)
	for _, t := range terms {
		if !p.Cols[t.Col].Whole {
			return ratio.R{}
		}
		num = num.Gcd(t.By.Num())
		more, _, _ := t.By.Den().DivMod(den.Gcd(t.By.Den()))
		den = den.Mul(more)
	}
	out, _ := ratio.Of(num, den)
	return out
}

func apart(a, b ratio.R) ratio.R {
	if a.Cmp(b) < 0 {
		return b.Sub(a)
	}
	return a.Sub(b)
}
