package branch

import (
	"math/big"

	"optima/api"
	"optima/linear"
	"optima/ratio"
)

// What the document says of a trail, word by word, over numbers of math/big: a bound that is nil is none.
type (
	plainCol struct {
		whole           bool
		low, high, cost *big.Rat
	}
	plainRow struct {
		by        []*big.Rat // of each column
		low, high *big.Rat
	}
	plainProblem struct {
		max   bool
		shift *big.Rat
		cols  []plainCol
		rows  []plainRow
	}
)

func bigOf(r ratio.R) *big.Rat {
	out, _ := new(big.Rat).SetString(r.Text())
	return out
}

func bigsOf(list []ratio.R) []*big.Rat {
	var out []*big.Rat
	for _, r := range list {
		out = append(out, bigOf(r))
	}
	return out
}

func bigBound(b linear.Bound) *big.Rat {
	if !b.Has {
		return nil
	}
	return bigOf(b.At)
}

func bigFloor(r *big.Rat) *big.Rat {
	return new(big.Rat).SetInt(new(big.Int).Div(r.Num(), r.Denom())) // the denominator is above 0: so it goes down
}

func plus(a, b *big.Rat) *big.Rat  { return new(big.Rat).Add(a, b) }
func minus(a, b *big.Rat) *big.Rat { return new(big.Rat).Sub(a, b) }
func times(a, b *big.Rat) *big.Rat { return new(big.Rat).Mul(a, b) }

func noughts(n int) []*big.Rat {
	out := make([]*big.Rat, n)
	for i := range out {
		out[i] = new(big.Rat)
	}
	return out
}

func plainly(p *linear.Problem) plainProblem {
	out := plainProblem{max: p.Max, shift: bigOf(p.Shift)}
	for _, c := range p.Cols {
		out.cols = append(out.cols, plainCol{c.Whole, bigBound(c.Low), bigBound(c.High), bigOf(c.Cost)})
	}
	for _, r := range p.Rows {
		row := plainRow{noughts(len(p.Cols)), bigBound(r.Low), bigBound(r.High)}
		for _, t := range r.Terms {
			row.by[t.Col] = bigOf(t.By)
		}
		out.rows = append(out.rows, row)
	}
	return out
}

func (p plainProblem) twin() plainProblem {
	p.cols = append([]plainCol{}, p.cols...)
	p.rows = append([]plainRow{}, p.rows...)
	return p
}

func inside(x, low, high *big.Rat) bool {
	return (low == nil || x.Cmp(low) >= 0) && (high == nil || x.Cmp(high) <= 0)
}

// wholePoint is whether x is a whole point, and what it costs.
func (p plainProblem) wholePoint(x []*big.Rat) (*big.Rat, bool) {
	if len(x) != len(p.cols) {
		return nil, false
	}
	cost := p.shift
	for i, c := range p.cols {
		if !inside(x[i], c.low, c.high) || c.whole && !x[i].IsInt() {
			return nil, false
		}
		cost = plus(cost, times(c.cost, x[i]))
	}
	for _, r := range p.rows {
		sum := new(big.Rat)
		for i, by := range r.by {
			sum = plus(sum, times(by, x[i]))
		}
		if !inside(sum, r.low, r.high) {
			return nil, false
		}
	}
	return cost, true
}

// reach is the least (most) of a number times something between bounds; nil: it has no end.
func reach(by, low, high *big.Rat, most bool) *big.Rat {
	if by.Sign() == 0 {
		return new(big.Rat)
	}
	bound := low
	if by.Sign() > 0 && most || by.Sign() < 0 && !most {
		bound = high
	}
	if bound == nil {
		return nil
	}
	return times(by, bound)
}

// total adds up what reach tells; nil, if one has no end.
func total(list ...*big.Rat) *big.Rat {
	out := new(big.Rat)
	for _, r := range list {
		if r == nil {
			return nil
		}
		out = plus(out, r)
	}
	return out
}

// pays is of a column the sum of price times its number.
func (p plainProblem) pays(y []*big.Rat, col int) *big.Rat {
	out := new(big.Rat)
	for i, r := range p.rows {
		out = plus(out, times(y[i], r.by[col]))
	}
	return out
}

// limit is P70; nil: none.
func (p plainProblem) limit(y []*big.Rat) *big.Rat {
	if len(y) != len(p.rows) {
		return nil
	}
	list := []*big.Rat{p.shift}
	for i, r := range p.rows {
		list = append(list, reach(y[i], r.low, r.high, p.max))
	}
	for i, c := range p.cols {
		list = append(list, reach(minus(c.cost, p.pays(y, i)), c.low, c.high, p.max))
	}
	return total(list...)
}

// none is P71's claim None.
func (p plainProblem) none(y []*big.Rat) bool {
	if len(y) == 0 {
		for _, c := range p.cols {
			if c.low != nil && c.high != nil && c.low.Cmp(c.high) > 0 {
				return true
			}
		}
		for _, r := range p.rows {
			if r.low != nil && r.high != nil && r.low.Cmp(r.high) > 0 {
				return true
			}
		}
	}
	if len(y) != len(p.rows) {
		return false
	}
	var rows, cols []*big.Rat
	for i, r := range p.rows {
		rows = append(rows, reach(y[i], r.low, r.high, false))
	}
	for i, c := range p.cols {
		cols = append(cols, reach(p.pays(y, i), c.low, c.high, true))
	}
	least, most := total(rows...), total(cols...)
	return least != nil && most != nil && least.Cmp(most) > 0
}

// combine is P110; false: an error.
func (p plainProblem) combine(y []*big.Rat) (plainRow, bool) {
	if len(y) != len(p.rows) {
		return plainRow{}, false
	}
	out := plainRow{by: noughts(len(p.cols)), high: new(big.Rat)}
	for i, r := range p.rows {
		counts := new(big.Rat)
		if y[i].Sign() > 0 {
			counts = r.high
		}
		if y[i].Sign() < 0 {
			counts = r.low
		}
		if counts == nil {
			return plainRow{}, false
		}
		out.high = plus(out.high, times(y[i], counts))
		for col, by := range r.by {
			out.by[col] = plus(out.by[col], times(y[i], by))
		}
	}
	for col, c := range p.cols {
		left := out.by[col]
		if c.whole {
			left = minus(left, bigFloor(left))
		}
		counts := c.low
		if left.Sign() < 0 {
			counts = c.high
		}
		if left.Sign() == 0 {
			continue
		}
		if counts == nil {
			return plainRow{}, false
		}
		out.high = minus(out.high, times(left, counts))
		out.by[col] = minus(out.by[col], left)
	}
	out.high = bigFloor(out.high)
	return out, true
}

// plainCheck is P121.
func plainCheck(p *linear.Problem, a Answer, trail []Line) bool {
	first, value := plainly(p), bigOf(a.Value)
	switch a.Kind {
	case api.None:
		if len(a.X) > 0 || value.Sign() != 0 {
			return false
		}
	case api.Best:
		cost, ok := first.wholePoint(bigsOf(a.X))
		if !ok || cost.Cmp(value) != 0 {
			return false
		}
	default:
		return false
	}
	open := []plainProblem{first}
	for _, line := range trail {
		if len(open) == 0 {
			return false
		}
		last := open[len(open)-1]
		parts, ok := last.after(a.Kind, value, line)
		if !ok {
			return false
		}
		open = append(open[:len(open)-1:len(open)-1], parts...)
	}
	return len(open) == 0
}

// after is what comes in a problem's place, the next one last; false: the line is not so.
func (p plainProblem) after(kind int, value *big.Rat, line Line) ([]plainProblem, bool) {
	y := bigsOf(line.Y)
	switch line.Kind {
	case api.TrailSplit:
		at := bigOf(line.At)
		if line.Col < 0 || line.Col >= len(p.cols) || !p.cols[line.Col].whole || !at.IsInt() {
			return nil, false
		}
		above, below := p.twin(), p.twin()
		next := plus(at, big.NewRat(1, 1))
		if c := &above.cols[line.Col]; c.low == nil || next.Cmp(c.low) > 0 {
			c.low = next
		}
		if c := &below.cols[line.Col]; c.high == nil || at.Cmp(c.high) < 0 {
			c.high = at
		}
		return []plainProblem{above, below}, true
	case api.TrailCut:
		row, ok := p.combine(y)
		if !ok || len(p.rows) >= api.MaxRows {
			return nil, false
		}
		more := p.twin()
		more.rows = append(more.rows, row)
		return []plainProblem{more}, true
	case api.TrailNone:
		return nil, p.none(y)
	case api.TrailBound:
		limit := p.limit(y)
		if kind != api.Best || limit == nil {
			return nil, false
		}
		if p.max {
			return nil, limit.Cmp(value) <= 0
		}
		return nil, limit.Cmp(value) >= 0
	}
	return nil, false
}
