package branch

import (
	"slices"

	"optima/api"
	"optima/cuts"
	"optima/linear"
	"optima/ratio"
	"optima/witness"
)

const (
	mostRounds = 10 // how often rows are looked for in one problem
	mostRows   = 3  // how many are taken each time
	leastGain  = 8  // if one time gains less than this part of the best one, it was the last
)

// tries tells when rows are looked for: again and again, while that ends problems, but ever less, while it does not.
type tries struct{ left, pause int }

func (t *tries) due() bool {
	if t.left > 0 {
		t.left--
		return false
	}
	return true
}

func (t *tries) tell(ended bool) {
	t.pause = 4*t.pause + 1
	if ended {
		t.pause = 0
	}
	t.left = t.pause
}

// costsEnd is whether one row, the costs rounded, ends a problem: whole points' costs go by steps, so that less than one step is nothing.
func (s *search) costsEnd(n *node, p *linear.Problem, claim witness.Claim) bool {
	if s.best.Kind != api.Best || apart(claim.Value, s.best.Value).Cmp(apart(s.step, ratio.R{})) >= 0 || len(p.Rows) >= api.MaxRows {
		return false
	}
	y := s.costMix(claim.Y)
	row, err := cuts.Combine(p, y)
	if err != nil {
		return false
	}
	prices := make([]ratio.R, len(p.Rows)+1)
	prices[len(p.Rows)] = s.step
	limit, ends, err := witness.Limit(withRow(p, row), prices)
	if err != nil || !s.useless(linear.Bound{Has: ends, At: limit}) {
		return false
	}
	n.line = Line{Kind: api.TrailCut, Y: y}
	n.then = []*node{{line: Line{Kind: api.TrailBound, Y: prices}}}
	return true
}

// cutsEnd is whether rows that all whole points keep end a problem. Else they are forgotten: that many would make each later look longer.
func (s *search) cutsEnd(n *node, p *linear.Problem, claim witness.Claim) bool {
	if !s.tries.due() {
		return false
	}
	kept := s.run
	s.run = kept.Twin()
	ended := s.cut(n, p, claim)
	s.run = kept
	s.tries.tell(ended)
	return ended
}

// cut gives a problem rows that its best point does not keep, time after time, as long as that gains something; true, if it is ended then.
func (s *search) cut(n *node, p *linear.Problem, claim witness.Claim) bool {
	var most ratio.R
	for range mostRounds {
		found := s.deepest(p, claim)
		if len(found) == 0 {
			return false
		}
		for _, c := range found {
			n, p = s.take(n, p, c)
		}
		before := claim.Value
		claim = s.run.Claim()
		if s.ends(n, claim) || s.costsEnd(n, p, claim) {
			return true
		}
		gain := apart(claim.Value, before)
		if gain.Cmp(most) > 0 {
			most = gain
		}
		if gain.Mul(ratio.Int(leastGain)).Cmp(most) < 0 {
			return false
		}
	}
	return false
}

// take gives a problem, and the run, one more row; what is answered stands in its place.
func (s *search) take(n *node, p *linear.Problem, c cut) (*node, *linear.Problem) {
	then := &node{}
	y := append(c.y, make([]ratio.R, len(p.Rows)-len(c.y))...) // rows that came at the same time do not count
	n.line, n.then = Line{Kind: api.TrailCut, Y: y}, []*node{then}
	p = withRow(p, c.row)
	_ = s.run.Add(p.Rows[len(p.Rows)-1]) // there is room for it
	return then, p
}

// deepest is some rows that a problem's best point does not keep: those from which it is furthest.
func (s *search) deepest(p *linear.Problem, claim witness.Claim) []cut {
	var all []cut
	for _, y := range s.mixes(p, claim) {
		if c, ok := cutOf(p, claim.X, y); ok {
			all = append(all, c)
		}
	}
	slices.SortStableFunc(all, cut.order)
	var out []cut
	for _, c := range all {
		if len(out) < mostRows && len(p.Rows)+len(out) < api.MaxRows && !slices.ContainsFunc(out, c.same) {
			out = append(out, c)
		}
	}
	return out
}
