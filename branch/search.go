package branch

import (
	"slices"

	"optima/api"
	"optima/linear"
	"optima/ratio"
	"optima/simplex"
	"optima/witness"
)

const (
	patience = 64 // how many problems in a row may be looked at without a point, until the most promising one is next
	stretch  = 32 // of every so many problems that come of each other one is kept in memory
)

// node is a problem of the trail.
type node struct {
	from  *node           // the problem whose split it comes of; nil of the first one
	above bool            // of the two that come of it, it is the one above
	depth int             // how many splits there are ahead of it
	kept  *linear.Problem // the problem, so that it need not be made again; seldom there
	guess ratio.R         // it likely has nothing better
	line  Line            // what becomes of it
	then  []*node         // the problems that come of it, in the trail's order
	limit linear.Bound    // it has nothing better; none, if that is not known
	y     []ratio.R       // the prices that give the limit
}

// search is the problems that are not ended, and the best whole point so far.
//
// The trail's order is that of a stack. But the sooner good points are found, the more is ended by them: so what is promising is looked at first, and the lines are put in their order at the end.
type search struct {
	p      *linear.Problem
	step   ratio.R // see costStep
	run    *simplex.Run
	now    *linear.Problem // the problem that the run is of
	first  *node
	open   stack[*node]
	later  stack[*node] // those that wait until nothing is open
	target ratio.R      // what is likely worse than it waits
	looks  int
	best   Answer
	tries  tries
}

func searchOf(p *linear.Problem, run *simplex.Run) *search {
	s := &search{p: p, step: costStep(p), run: run, now: p, first: &node{kept: p}, best: Answer{Kind: api.None}}
	s.open.push(s.first)
	return s
}

// next is the problem that is to be looked at; false, if none is left.
func (s *search) next() (*node, bool) {
	for {
		if s.looks++; s.best.Kind != api.Best && s.looks%patience == 0 {
			s.open.lift(s.order)
		}
		n, some := s.open.pop()
		switch {
		case !some && s.later.empty():
			return nil, false
		case !some:
			s.open, s.later = s.later, s.open
			s.aim()
		case n.from != nil && s.useless(n.from.limit): // what that shows, it shows of this one
		case s.waits(n):
			s.later.push(n)
		default:
			return n, true
		}
	}
}

// order is below 0, if one problem is more promising than another.
func (s *search) order(a, b *node) int {
	if s.p.Max {
		return b.guess.Cmp(a.guess)
	}
	return a.guess.Cmp(b.guess)
}

// useless is whether a limit leaves nothing that is better than the best point so far.
func (s *search) useless(limit linear.Bound) bool {
	return limit.Has && s.best.Kind == api.Best && !better(s.p, limit.At, s.best.Value)
}

// waits is whether a problem is likely worse than the target, but better than the best point.
func (s *search) waits(n *node) bool {
	return s.best.Kind == api.Best && better(s.p, s.target, n.guess) && better(s.p, n.guess, s.best.Value)
}

// aim sets the target on a quarter of the way from the most promising problem, which so does not wait, to the best point.
func (s *search) aim() {
	all := slices.Concat(s.open.things, s.later.things)
	if len(all) == 0 {
		return
	}
	guess := slices.MinFunc(all, s.order).guess
	quarter, _ := s.best.Value.Sub(guess).Quo(ratio.Int(4))
	s.target = guess.Add(quarter)
}

// visit ends a problem, or splits it.
func (s *search) visit(n *node) {
	p := s.problem(n)
	claim := s.claim(p)
	if !s.ends(n, claim) && !s.costsEnd(n, p, claim) && !s.cutsEnd(n, p, claim) {
		s.split(n, claim)
	}
}

// problem is what a node stands for.
func (s *search) problem(n *node) *linear.Problem {
	last := n
	for last.kept == nil {
		last = last.from
	}
	p := *last.kept
	p.Cols = slices.Clone(p.Cols)
	for at := n; at != last; at = at.from {
		tighten := lower
		if at.above {
			tighten = raise
		}
		tighten(&p.Cols[at.from.line.Col], at.from.line.At)
	}
	if n.depth%stretch == 0 {
		n.kept = &p
	}
	return &p
}

// claim is that of a problem which differs from the one looked at before in its columns' bounds alone; whole columns are as others.
func (s *search) claim(p *linear.Problem) witness.Claim {
	for i, col := range p.Cols {
		if was := s.now.Cols[i]; col.Low.At.Cmp(was.Low.At) != 0 || col.High.At.Cmp(was.High.At) != 0 {
			_ = s.run.Between(i, col.Low, col.High) // the column is there
		}
	}
	s.now = p
	return s.run.Claim()
}

// ends is whether a claim of a problem ends it.
func (s *search) ends(n *node, claim witness.Claim) bool {
	if claim.Kind == api.None {
		n.line = Line{Kind: api.TrailNone, Y: claim.Y}
		return true
	}
	n.line = Line{Kind: api.TrailBound, Y: claim.Y}
	n.limit, n.y = linear.Bound{Has: true, At: claim.Value}, claim.Y
	if s.useless(n.limit) {
		return true
	}
	if !isWhole(s.p, claim.X) {
		return false
	}
	s.best = Answer{Kind: api.Best, X: claim.X, Value: claim.Value}
	s.aim()
	return true
}

func isWhole(p *linear.Problem, x []ratio.R) bool {
	for i, col := range p.Cols {
		if col.Whole && !x[i].IsWhole() {
			return false
		}
	}
	return true
}

// trail is the lines of all problems in their order.
func (s *search) trail() []Line {
	var out []Line
	var open stack[*node]
	open.push(s.first)
	for n, some := open.pop(); some; n, some = open.pop() {
		if s.useless(n.limit) { // by a point that may have come later
			out = append(out, Line{Kind: api.TrailBound, Y: n.y})
			continue
		}
		out = append(out, n.line)
		for _, then := range slices.Backward(n.then) {
			open.push(then)
		}
	}
	return out
}
