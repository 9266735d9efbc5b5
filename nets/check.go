package nets

import (
	"slices"

	"optima/api"
	"optima/ratio"
)

// Check is whether a plan shows itself: that it sends all supplies as cheaply as can be, or that they cannot be sent.
func Check(nodes int, arcs []Arc, supply []ratio.R, p *Plan) (bool, error) {
	if err := suits(nodes, arcs, supply); err != nil {
		return false, err
	}
	if p == nil {
		return false, api.ErrShape
	}
	if p.None {
		return len(p.Side) == nodes && isTooMuch(arcs, supply, p.Side), nil
	}
	if len(p.Flow) != len(arcs) || len(p.Prices) != nodes {
		return false, nil
	}
	return sendsAll(arcs, supply, p.Flow) && bill(arcs, p.Flow).Cmp(p.Cost) == 0 && areBest(arcs, p), nil
}

// isTooMuch is whether one side's supplies are above what can leave it.
func isTooMuch(arcs []Arc, supply []ratio.R, side []bool) bool {
	var rest ratio.R
	for at, much := range supply {
		if side[at] {
			rest = rest.Add(much)
		}
	}
	for _, arc := range arcs {
		if side[arc.From] && !side[arc.To] {
			rest = rest.Sub(arc.Cap)
		}
	}
	return rest.Sign() > 0
}

// sendsAll is whether a flow is within the caps, and each node sends just its supply more than it gets.
func sendsAll(arcs []Arc, supply, flow []ratio.R) bool {
	rest := slices.Clone(supply)
	for i, arc := range arcs {
		if flow[i].Sign() < 0 || flow[i].Cmp(arc.Cap) > 0 {
			return false
		}
		rest[arc.From] = rest[arc.From].Sub(flow[i])
		rest[arc.To] = rest[arc.To].Add(flow[i])
	}
	return !slices.ContainsFunc(rest, func(r ratio.R) bool { return r.Sign() != 0 })
}

// bill is what a flow costs.
func bill(arcs []Arc, flow []ratio.R) ratio.R {
	var sum ratio.R
	for i, arc := range arcs {
		sum = sum.Add(arc.Cost.Mul(flow[i]))
	}
	return sum
}

// areBest is whether by the prices no arc that could take more pays, and none that takes something costs.
func areBest(arcs []Arc, p *Plan) bool {
	for i, arc := range arcs {
		cost := arc.Cost.Add(p.Prices[arc.From]).Sub(p.Prices[arc.To]).Sign()
		if cost < 0 && p.Flow[i].Cmp(arc.Cap) < 0 || cost > 0 && p.Flow[i].Sign() > 0 {
			return false
		}
	}
	return true
}
