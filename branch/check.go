package branch

import (
	"optima/api"
	"optima/cuts"
	"optima/linear"
	"optima/ratio"
	"optima/witness"
)

// Check is whether an answer is a whole point and what it costs, or that there is none, and a trail ends all problems that there are.
func Check(p *linear.Problem, a Answer, trail []Line) (bool, error) {
	if err := linear.Valid(p); err != nil {
		return false, err
	}
	if !stands(p, a) {
		return false, nil
	}
	var open stack[*linear.Problem]
	open.push(p)
	for _, line := range trail {
		last, some := open.pop()
		if !some || !follow(&open, last, a, line) {
			return false, nil
		}
	}
	return open.empty(), nil
}

// stands is whether an answer says what it must, shown or not. As p is valid, an error tells that X has another length.
func stands(p *linear.Problem, a Answer) bool {
	switch a.Kind {
	case api.None:
		return len(a.X) == 0 && a.Value.Sign() == 0
	case api.Best:
		if ok, err := linear.Holds(p, a.X, true); err != nil || !ok {
			return false
		}
		value, err := linear.Value(p, a.X)
		return err == nil && value.Cmp(a.Value) == 0
	}
	return false
}

// follow puts, in place of a problem, those that a line makes of it: none, if it ends it. False: the line is not so.
func follow(open *stack[*linear.Problem], p *linear.Problem, a Answer, line Line) bool {
	switch line.Kind {
	case api.TrailSplit:
		if line.Col < 0 || line.Col >= len(p.Cols) || !p.Cols[line.Col].Whole || !line.At.IsWhole() {
			return false
		}
		open.push(narrowed(p, line.Col, raise, line.At))
		open.push(narrowed(p, line.Col, lower, line.At))
		return true
	case api.TrailCut:
		row, err := cuts.Combine(p, line.Y)
		if err != nil || len(p.Rows) >= api.MaxRows {
			return false
		}
		open.push(withRow(p, row))
		return true
	case api.TrailNone:
		ok, err := witness.Check(p, witness.Claim{Kind: api.None, Y: line.Y})
		return err == nil && ok
	case api.TrailBound:
		limit, ends, err := witness.Limit(p, line.Y)
		return a.Kind == api.Best && err == nil && ends && !better(p, limit, a.Value)
	}
	return false
}

// better is whether a point that costs one number is better than one that costs another.
func better(p *linear.Problem, one, other ratio.R) bool {
	if p.Max {
		return one.Cmp(other) > 0
	}
	return one.Cmp(other) < 0
}
