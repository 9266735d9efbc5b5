package simplex

import (
	"optima/api"
	"optima/linear"
	"optima/whole"
)

// choose is, of the numbers below n that fit, the one that goes ahead of all others; -1, if none fits.
func choose(n int, fits func(i int) bool, ahead func(i, j int) bool) int {
	chosen := -1
	for i := range n {
		if fits(i) && (chosen < 0 || ahead(i, chosen)) {
			chosen = i
		}
	}
	return chosen
}

// watch is a function that hears of each step whether it has gained something, and is whether one has to be careful from there on.
//
// Steps that gain nothing may lead back to a basis that has been there. If, of all columns that may be chosen, always the first one is, they do not; but as a rule such steps are more in number.
func (t *table) watch() func(gained bool) (careful bool) {
	idle := 0
	return func(gained bool) bool {
		idle++
		if gained {
			idle = 0
		}
		return idle > t.patience
	}
}

// cost is the sign of what it costs that the column at place k grows: below 0, if that is good.
func (t *table) cost(k int) int { return t.last().num[k].Sign() * worse(t.p) }

// last is the costs by which steps are chosen.
func (t *table) last() line { return t.costs[len(t.costs)-1] }

// tempting is whether the column at place k may move, and that is good.
func (t *table) tempting(k int) bool {
	way := -t.cost(k)
	return way != 0 && t.may(k, way)
}

// may is whether the column at place k may grow (way above 0), or shrink (below).
func (t *table) may(k, way int) bool {
	col := t.apart[k]
	if t.where[col] == api.Loose {
		return true
	}
	return t.where[col] != end(way) && !t.stuck(col)
}

// stuck is whether a column's bounds are the same.
func (t *table) stuck(col int) bool {
	low, high := t.low[col], t.high[col]
	return low.Has && high.Has && low.At.Cmp(high.At) == 0
}

// width is how far a column's bounds are apart, if it has both.
func (t *table) width(col int) linear.Bound {
	low, high := t.low[col], t.high[col]
	if !low.Has || !high.Has {
		return linear.Bound{}
	}
	return linear.Bound{Has: true, At: high.At.Sub(low.At)}
}

// off is 1, if a column is below its low bound, so that it has to grow, -1, if it is above its high one, else 0.
func (t *table) off(col int) int {
	if t.low[col].Has && t.x[col].Cmp(t.low[col].At) < 0 {
		return 1
	}
	if t.high[col].Has && t.x[col].Cmp(t.high[col].At) > 0 {
		return -1
	}
	return 0
}

// end is the bound at which a column comes to stand that grows (way above 0), or shrinks (below).
func end(way int) int {
	if way > 0 {
		return api.High
	}
	return api.Low
}

// size is how far a number is from 0.
func size(z whole.Z) whole.Z {
	if z.Sign() < 0 {
		return z.Neg()
	}
	return z
}
