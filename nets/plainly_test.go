package nets

import (
	"math/big"

	"optima/ratio"
)

// What the document says, word by word, over math/big.

func asRat(r ratio.R) *big.Rat {
	out, _ := new(big.Rat).SetString(r.Text())
	return out
}

// sent is what each node sends more than it gets.
func sent(nodes int, list []Arc, flow []ratio.R) []*big.Rat {
	out := make([]*big.Rat, nodes)
	for i := range out {
		out[i] = new(big.Rat)
	}
	for i, arc := range list {
		out[arc.From].Add(out[arc.From], asRat(flow[i]))
		out[arc.To].Sub(out[arc.To], asRat(flow[i]))
	}
	return out
}

func withinCaps(list []Arc, flow []ratio.R) bool {
	for i, arc := range list {
		if x := asRat(flow[i]); x.Sign() < 0 || x.Cmp(asRat(arc.Cap)) > 0 {
			return false
		}
	}
	return true
}

// across is the caps of all arcs from true to false.
func across(list []Arc, side []bool) *big.Rat {
	sum := new(big.Rat)
	for _, arc := range list {
		if side[arc.From] && !side[arc.To] {
			sum.Add(sum, asRat(arc.Cap))
		}
	}
	return sum
}

// wrongMost is what is not as P130 says; empty: all is.
func wrongMost(nodes int, list []Arc, s, t int, flow []ratio.R, side []bool, much ratio.R) string {
	if len(flow) != len(list) || len(side) != nodes {
		return "lengths"
	}
	if !withinCaps(list, flow) {
		return "caps"
	}
	for at, x := range sent(nodes, list, flow) {
		switch {
		case at == s && x.Cmp(asRat(much)) != 0:
			return "not so much comes out of s"
		case at != s && at != t && x.Sign() != 0:
			return "a node does not give what it gets"
		}
	}
	if !side[s] || side[t] {
		return "the sides of s and t"
	}
	if across(list, side).Cmp(asRat(much)) != 0 {
		return "the caps between the sides"
	}
	return ""
}

// showsPlainly is P132.
func showsPlainly(nodes int, list []Arc, supply []ratio.R, p *Plan) bool {
	if p.None {
		if len(p.Side) != nodes {
			return false
		}
		sum := new(big.Rat)
		for at, much := range supply {
			if p.Side[at] {
				sum.Add(sum, asRat(much))
			}
		}
		return sum.Cmp(across(list, p.Side)) > 0
	}
	if len(p.Flow) != len(list) || !withinCaps(list, p.Flow) {
		return false
	}
	for at, x := range sent(nodes, list, p.Flow) {
		if x.Cmp(asRat(supply[at])) != 0 {
			return false
		}
	}
	cost := new(big.Rat)
	for i, arc := range list {
		cost.Add(cost, new(big.Rat).Mul(asRat(arc.Cost), asRat(p.Flow[i])))
	}
	if cost.Cmp(asRat(p.Cost)) != 0 || len(p.Prices) != nodes {
		return false
	}
	for i, arc := range list {
		d := new(big.Rat).Add(asRat(arc.Cost), asRat(p.Prices[arc.From]))
		d.Sub(d, asRat(p.Prices[arc.To]))
		if asRat(p.Flow[i]).Cmp(asRat(arc.Cap)) < 0 && d.Sign() < 0 {
			return false
		}
		if asRat(p.Flow[i]).Sign() > 0 && d.Sign() > 0 {
			return false
		}
	}
	return true
}
