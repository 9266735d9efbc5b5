package nets

import (
	"slices"

	"optima/whole"
)

// A ring is a way over open lines back to where it began. What flows is as cheap as can be, if no ring costs less than 0: then there are prices that show it.

// cheapest moves along rings until none costs less than 0, and answers prices of the nodes that show it.
//
// Long costs are rounded first: most rings are found as well by short ones, and much sooner.
func (n *net) cheapest(costs []whole.Z) []whole.Z {
	n.cheapen(rounded(costs))
	return n.cheapen(costs)
}

// short is about how great rounded costs are at most: what comes of them on a way over all nodes, and of means of such, still is a small number.
const short = 1 << 40

// rounded is costs by so great a unit that they are short.
func rounded(costs []whole.Z) []whole.Z {
	var most whole.Z
	for _, cost := range costs {
		most = slices.MaxFunc([]whole.Z{most, cost, cost.Neg()}, whole.Z.Cmp)
	}
	unit, _, _ := most.DivMod(whole.Of(short))
	return each(costs, func(cost whole.Z) whole.Z {
		out, _, _ := cost.DivMod(unit.Add(whole.Of(1)))
		return out
	})
}

// cheapen is what cheapest does, by costs as they are.
//
// Each round finds the least that a line of a ring costs on the average, and prices by which no line costs less than that. Then all rings are filled whose lines cost less than 0 by these prices: so the least average rises, and the rounds are few, however great the numbers are.
func (n *net) cheapen(costs []whole.Z) []whole.Z {
	for {
		table := n.wayTable(costs)
		least := table.leastMean()
		prices := table.prices(least)
		if least.sum.Sign() == 0 {
			return prices
		}
		walkOf(n, func(line int) bool {
			cost := lineCost(costs, line).Mul(whole.Of(least.of))
			return cost.Add(prices[n.from[line]]).Cmp(prices[n.to[line]]) < 0
		}).fillRings()
	}
}

// lineCost is what a line costs: against its arc what that one costs is got back.
func lineCost(costs []whole.Z, line int) whole.Z {
	if line%2 == 0 {
		return costs[line/2]
	}
	return costs[line/2].Neg()
}

// way is what the cheapest way to a node costs, if there is some.
type way struct {
	some bool
	cost whole.Z
}

// wayTable is, of each number of lines from 0 on up to the number of nodes, the cheapest ways of so many lines to each node, from anywhere.
type wayTable [][]way

func (n *net) wayTable(costs []whole.Z) wayTable {
	table := wayTable{repeat(way{some: true}, len(n.leaving))}
	for range n.leaving {
		table = append(table, n.longer(table[len(table)-1], costs))
	}
	return table
}

// longer is the cheapest ways of one line more.
func (n *net) longer(ways []way, costs []whole.Z) []way {
	out := repeat(way{}, len(ways))
	for line, to := range n.to {
		behind := ways[n.from[line]]
		if !behind.some || !n.isOpen(line) {
			continue
		}
		cost := behind.cost.Add(lineCost(costs, line))
		if !out[to].some || cost.Cmp(out[to].cost) < 0 {
			out[to] = way{some: true, cost: cost}
		}
	}
	return out
}

// mean is a sum by so many; by 0 it is none.
type mean struct {
	sum whole.Z
	of  int64
}

// cmp is as of fractions; neither is none.
func (m mean) cmp(o mean) int {
	return m.sum.Mul(whole.Of(o.of)).Cmp(o.sum.Mul(whole.Of(m.of)))
}

// leastMean is the least that a line of a ring costs on the average; 0, if no ring is below that.
//
// A way of as many lines as there are nodes has a ring in it. What it costs more than the cheapest one of fewer lines, on the average of the lines that it has more, at the most of all these, and at the least of all nodes, is the least of a ring: Karp's theorem.
func (t wayTable) leastMean() mean {
	least := mean{of: 1}
	for at, longest := range t[len(t)-1] {
		if !longest.some {
			continue
		}
		if m := t.mostMean(at); m.cmp(least) < 0 {
			least = m
		}
	}
	return least
}

// mostMean is the most that the longest way to a node costs more than a shorter one, on the average of its lines more. There are shorter ones of all lengths, since its last lines are such.
func (t wayTable) mostMean(at int) mean {
	var most mean
	last := len(t) - 1
	for lines := range last {
		m := mean{sum: t[last][at].cost.Sub(t[lines][at].cost), of: int64(last - lines)}
		if most.of == 0 || m.cmp(most) > 0 {
			most = m
		}
	}
	return most
}

// prices is of each node what the cheapest way to it costs, where the least mean is taken off each line: by such prices no line costs less than that mean. All of it is taken as many times as the mean is of lines, so that it is whole.
func (t wayTable) prices(least mean) []whole.Z {
	out := repeat(whole.Z{}, len(t[0]))
	for lines, ways := range t[:len(t)-1] {
		less := least.sum.Mul(whole.Of(int64(lines)))
		for at, w := range ways {
			if price := w.cost.Mul(whole.Of(least.of)).Sub(less); w.some && price.Cmp(out[at]) < 0 {
				out[at] = price
			}
		}
	}
	return out
}
