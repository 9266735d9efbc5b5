package cuts

import (
	"optima/linear"
	"optima/ratio"
	"optima/whole"
)

// sum is columns with their numbers, and the side that they are held against.
type sum struct {
	numbers []ratio.R // one for each column
	side    ratio.R
}

func newSum(p *linear.Problem) *sum {
	return &sum{numbers: make([]ratio.R, len(p.Cols))}
}

// add adds terms, and what they are held against, so many times.
func (s *sum) add(terms []linear.Term, side, times ratio.R) {
	for _, t := range terms {
		s.numbers[t.Col] = s.numbers[t.Col].Add(t.By.Mul(times))
	}
	s.side = s.side.Add(side.Mul(times))
}

// addBetween adds terms that stay between bounds, so many times, so that what was at most the side is so again. False: it would need a bound that is not there.
func (s *sum) addBetween(terms []linear.Term, low, high linear.Bound, times ratio.R) bool {
	if times.Sign() == 0 {
		return true
	}
	counts := high
	if times.Sign() < 0 {
		counts = low
	}
	if counts.Has {
		s.add(terms, counts.At, times)
	}
	return counts.Has
}

// leaveOut takes so much from a column's number: its own bounds say what that is at least.
func (s *sum) leaveOut(p *linear.Problem, col int, out ratio.R) bool {
	return s.addBetween(once(col), p.Cols[col].Low, p.Cols[col].High, out.Neg())
}

// terms is by column what is not 0.
func (s *sum) terms() []linear.Term {
	var out []linear.Term
	for col, number := range s.numbers {
		if number.Sign() != 0 {
			out = append(out, linear.Term{Col: col, By: number})
		}
	}
	return out
}

// once is a column by itself.
func once(col int) []linear.Term {
	return []linear.Term{{Col: col, By: ratio.Int(1)}}
}

func bound(at ratio.R) linear.Bound { return linear.Bound{Has: true, At: at} }

// rounded is the whole number that a way of rounding makes of a number.
func rounded(number ratio.R, way func(ratio.R) whole.Z) ratio.R {
	out, _ := ratio.Of(way(number), whole.Of(1))
	return out
}

// past is how far a number is beyond the whole one: below 0, if it was rounded up.
func past(number ratio.R, way func(ratio.R) whole.Z) ratio.R {
	return number.Sub(rounded(number, way))
}
