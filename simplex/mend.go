package simplex

import (
	"slices"

	"optima/api"
	"optima/ratio"
	"optima/whole"
)

// mend takes steps, by which no column becomes tempting, until none is off its bounds (way is 0): or until the column of some line (which) is, and has to go that way, but cannot, whatever the others do.
func (t *table) mend() (which, way int) {
	if !slices.ContainsFunc(t.basic, func(col int) bool { return t.off(col) != 0 }) {
		return 0, 0
	}
	t.settleCosts()
	defer func() { t.costs = t.costs[:1] }()
	watch := t.watch()
	careful := watch(true)
	for {
		i := t.furthest(careful)
		if i < 0 {
			return 0, 0
		}
		way := t.off(t.basic[i])
		k := t.helper(i, way, careful)
		if k < 0 {
			return i, way
		}
		careful = watch(t.cost(k) != 0)
		t.drive(i, k, end(-way))
	}
}

// settleCosts sees to it that nothing is tempting: a column goes to its other bound, or, if it has none, gets a cost that is made up. What steps by such costs come to is no best point yet, but all is within its bounds there.
func (t *table) settleCosts() {
	made := line{num: slices.Clone(t.last().num), over: t.last().over}
	some := false
	for k, col := range t.apart {
		switch {
		case !t.tempting(k):
			continue
		case t.width(col).Has:
			t.flip(k)
			continue
		case t.where[col] == api.Loose:
			made.num[k] = whole.Z{}
		default:
			made.num[k] = product(made.over, whole.Of(int64(-made.num[k].Sign())))
		}
		some = true
	}
	if some {
		made.cancel(made.over)
		t.costs = append(t.costs, made)
	}
}

// furthest is the line whose column is furthest off its bounds, measured by how far it moves with the others; -1, if none is. Carefully chosen, it is the first one that is.
func (t *table) furthest(careful bool) int {
	far := make([]ratio.R, len(t.basic))
	isOff := func(i int) bool {
		col := t.basic[i]
		way := t.off(col)
		if way == 0 {
			return false
		}
		gap := t.bound(col, end(-way)).At.Sub(t.x[col])
		far[i], _ = gap.Mul(ratio.Int(int64(way))).Quo(t.lines[i].stretch())
		return true
	}
	return choose(len(t.basic), isOff, func(i, j int) bool {
		if careful {
			return t.basic[i] < t.basic[j]
		}
		return far[i].Cmp(far[j]) > 0
	})
}

// helper is a place whose column may move such that the one of line i goes its way, and then no column becomes tempting; -1, if there is none. Carefully chosen, of those the first column.
func (t *table) helper(i, way int, careful bool) int {
	by, costs := t.lines[i].num, t.last().num
	helps := func(k int) bool { return by[k].Sign() != 0 && t.may(k, by[k].Sign()*way) }
	return choose(len(by), helps, func(j, k int) bool {
		if order := size(costs[j].Mul(by[k])).Cmp(size(costs[k].Mul(by[j]))); order != 0 {
			return order < 0
		}
		if careful {
			return t.apart[j] < t.apart[k]
		}
		return size(by[j]).Cmp(size(by[k])) > 0
	})
}
