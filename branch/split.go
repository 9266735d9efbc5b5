package branch

import (
	"optima/api"
	"optima/linear"
	"optima/ratio"
	"optima/whole"
	"optima/witness"
)

// choice is a column that is not whole, and what is lost at least, if it goes down or up to the next whole number; none: no point is left then, or it stands at a bound, so that one of both ways has none.
type choice struct {
	col      int
	down, up linear.Bound
}

// split puts two problems in place of one, which has the run's best point. The one where less is lost is looked at first.
func (s *search) split(n *node, claim witness.Claim) {
	c := s.dearest(claim.X)
	n.line = Line{Kind: api.TrailSplit, Col: c.col, At: floor(claim.X[c.col])}
	below := &node{from: n, depth: n.depth + 1, guess: s.worse(claim.Value, c.down.At)}
	above := &node{from: n, depth: n.depth + 1, guess: s.worse(claim.Value, c.up.At), above: true}
	n.then = []*node{below, above}
	if less(c.up, c.down) {
		s.open.push(below)
		s.open.push(above)
	} else {
		s.open.push(above)
		s.open.push(below)
	}
}

// dearest is the choice by which most is lost either way: it ends the most.
func (s *search) dearest(x []ratio.R) choice {
	var best choice
	some := false
	for i, col := range s.p.Cols {
		if !col.Whole || x[i].IsWhole() {
			continue
		}
		if c := s.choice(i, x[i]); !some || c.dearer(best) {
			best, some = c, true
		}
	}
	return best
}

func (s *search) choice(col int, at ratio.R) choice {
	c := choice{col: col, down: s.run.Toll(col, -1), up: s.run.Toll(col, 1)}
	down := at.Sub(floor(at))
	c.down.At, c.up.At = c.down.At.Mul(down), c.up.At.Mul(ratio.Int(1).Sub(down))
	return c
}

// dearer is whether more is lost the better way; if that is the same, the worse way.
func (c choice) dearer(o choice) bool {
	least, most := c.losses()
	otherLeast, otherMost := o.losses()
	return less(otherLeast, least) || !less(least, otherLeast) && less(otherMost, most)
}

// losses is what is lost the better way and the worse one.
func (c choice) losses() (least, most linear.Bound) {
	if less(c.up, c.down) {
		return c.up, c.down
	}
	return c.down, c.up
}

// less is whether a loss is less than another, where none is more than all.
func less(a, b linear.Bound) bool {
	if !a.Has || !b.Has {
		return a.Has && !b.Has
	}
	return a.At.Cmp(b.At) < 0
}

// worse is a cost that is worse by so much.
func (s *search) worse(cost, by ratio.R) ratio.R {
	if s.p.Max {
		return cost.Sub(by)
	}
	return cost.Add(by)
}

func floor(r ratio.R) ratio.R {
	out, _ := ratio.Of(r.Floor(), whole.Of(1))
	return out
}
