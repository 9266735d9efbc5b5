package simplex

import (
	"optima/api"
	"optima/linear"
	"optima/ratio"
)

// table is a problem as a basis says it: by lines, each of which tells a Basic column by those that are not.
type table struct {
	p         *linear.Problem
	low, high []linear.Bound // of each column
	where     []int          // of each column where it stands
	x         []ratio.R      // of each column what it is worth
	basic     []int          // of each line the column that it tells
	apart     []int          // of each place in the lines the column that it is of
	lines     []line
	costs     []line // reduced costs, place by place; by the last ones steps are chosen
	patience  int    // how many steps in a row may gain nothing
}

// newTable is the problem by the basis where each row's sum is Basic. What columns are worth is not told yet.
func newTable(p *linear.Problem) *table {
	t := &table{p: p}
	var costs []ratio.R
	for j, col := range p.Cols {
		t.add(col.Low, col.High, firstPlace(p, col))
		t.apart = append(t.apart, j)
		costs = append(costs, col.Cost)
	}
	for i, row := range p.Rows {
		t.add(row.Low, row.High, api.Basic)
		t.basic = append(t.basic, len(p.Cols)+i)
		by := make([]ratio.R, len(p.Cols))
		for _, term := range row.Terms {
			by[term.Col] = term.By
		}
		t.lines = append(t.lines, lineOf(by))
	}
	t.costs = []line{lineOf(costs)}
	t.x = make([]ratio.R, len(t.where))
	t.patience = len(t.where)
	return t
}

func (t *table) add(low, high linear.Bound, where int) {
	t.low, t.high = append(t.low, low), append(t.high, high)
	t.where = append(t.where, where)
}

// firstPlace is where a column stands at first: of two bounds at the one that its cost makes good.
func firstPlace(p *linear.Problem, col linear.Col) int {
	switch {
	case !col.Low.Has && !col.High.Has:
		return api.Loose
	case !col.Low.Has:
		return api.High
	case col.High.Has && col.Cost.Sign()*worse(p) < 0:
		return api.High
	}
	return api.Low
}

// worse is the sign of what makes a point's cost worse.
func worse(p *linear.Problem) int {
	if p.Max {
		return -1
	}
	return 1
}

// swap lets the column that line i tells and the one at place k, whose number there is not 0, change places.
func (t *table) swap(i, k int) {
	t.lines[i].solve(k)
	for j := range t.lines {
		if j != i {
			t.lines[j].put(k, t.lines[i])
		}
	}
	for j := range t.costs {
		t.costs[j].put(k, t.lines[i])
	}
	t.basic[i], t.apart[k] = t.apart[k], t.basic[i]
}

// tell works out what the columns are worth.
func (t *table) tell() {
	for _, col := range t.apart {
		t.x[col] = t.bound(col, t.where[col]).At
	}
	for i, col := range t.basic {
		t.x[col] = ratio.R{}
		for k, z := range t.lines[i].num {
			if worth := t.x[t.apart[k]]; z.Sign() != 0 && worth.Sign() != 0 {
				t.x[col] = t.x[col].Add(t.lines[i].at(k).Mul(worth))
			}
		}
	}
}

// bound is that of a column which where names; of Loose 0.
func (t *table) bound(col, where int) linear.Bound {
	switch where {
	case api.Low:
		return t.low[col]
	case api.High:
		return t.high[col]
	}
	return linear.Bound{}
}

// move changes the column at place k by so much, and the Basic ones with it.
func (t *table) move(k int, by ratio.R) {
	if by.Sign() == 0 {
		return
	}
	for i, col := range t.basic {
		if t.lines[i].num[k].Sign() != 0 {
			t.x[col] = t.x[col].Add(t.lines[i].at(k).Mul(by))
		}
	}
	t.x[t.apart[k]] = t.x[t.apart[k]].Add(by)
}

// flip lets the column at place k go to its other bound.
func (t *table) flip(k int) {
	col := t.apart[k]
	t.where[col] = api.Low + api.High - t.where[col]
	t.move(k, t.bound(col, t.where[col]).At.Sub(t.x[col]))
}

// drive moves the column at place k until that of line i stands at its bound where, and lets both change places.
func (t *table) drive(i, k, where int) {
	in, out := t.apart[k], t.basic[i]
	by, _ := t.bound(out, where).At.Sub(t.x[out]).Quo(t.lines[i].at(k))
	t.move(k, by)
	t.swap(i, k)
	t.where[in], t.where[out] = api.Basic, where
}
