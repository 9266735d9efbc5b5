package simplex

import (
	"slices"

	"optima/api"
	"optima/linear"
	"optima/ratio"
	"optima/witness"
)

// frame is what the basis says, as it stands.
func (t *table) frame() *Frame {
	f := &Frame{X: t.x, Cost: t.spread(t.costs[0])}
	for col, at := range t.where {
		if at == api.Basic {
			f.Basic = append(f.Basic, col)
			f.By = append(f.By, t.spread(t.lines[slices.Index(t.basic, col)]))
		}
	}
	return f
}

// spread is a line as numbers of all columns: 0 of Basic ones.
func (t *table) spread(l line) []ratio.R {
	out := make([]ratio.R, len(t.where))
	for k, col := range t.apart {
		out[col] = l.at(k)
	}
	return out
}

// claim looks for a best point, and tells what has come of it; where is the basis then.
func (t *table) claim() witness.Claim {
	if t.cross() {
		return witness.Claim{Kind: api.None}
	}
	if i, way := t.mend(); way != 0 {
		return t.none(i, way)
	}
	if k, way := t.better(); way != 0 {
		return t.endless(k, way)
	}
	return t.best()
}

// cross is whether a column's low bound is above its high one.
func (t *table) cross() bool {
	for col, low := range t.low {
		if high := t.high[col]; low.Has && high.Has && low.At.Cmp(high.At) > 0 {
			return true
		}
	}
	return false
}

// best is the claim that where columns stand now is best.
func (t *table) best() witness.Claim {
	cols := len(t.p.Cols)
	x, costs := slices.Clone(t.x[:cols]), t.spread(t.costs[0])
	value, _ := linear.Value(t.p, x)
	return witness.Claim{Kind: api.Best, X: x, Y: slices.Clone(costs[cols:]), Value: value}
}

// none is the claim that the column of line i is off its bounds, whatever the others do, which stand so that it is as near as can be. The line says that what it tells, less all that it is told by, is 0: of that the rows' sums are told by their prices, the columns by what these pay for them.
func (t *table) none(i, way int) witness.Claim {
	of := t.spread(t.lines[i])
	y := make([]ratio.R, len(t.p.Rows))
	for row := range y {
		col := len(t.p.Cols) + row
		y[row] = of[col].Neg()
		if col == t.basic[i] {
			y[row] = ratio.Int(1)
		}
		y[row] = y[row].Mul(ratio.Int(int64(way)))
	}
	return witness.Claim{Kind: api.None, Y: y}
}

// endless is the claim that the column at place k may go its way without end, the Basic ones with it, and that this is good.
func (t *table) endless(k, way int) witness.Claim {
	ray := make([]ratio.R, len(t.where))
	by := ratio.Int(int64(way))
	ray[t.apart[k]] = by
	for i, col := range t.basic {
		ray[col] = t.lines[i].at(k).Mul(by)
	}
	cols := len(t.p.Cols)
	return witness.Claim{Kind: api.Endless, X: slices.Clone(t.x[:cols]), Ray: slices.Clone(ray[:cols])}
}
