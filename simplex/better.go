package simplex

import (
	"optima/linear"
	"optima/ratio"
	"optima/whole"
)

// better takes steps, by which no column gets off its bounds, until nothing is tempting (way is 0): or until the column at a place is, and may go that way without end.
func (t *table) better() (place, way int) {
	watch := t.watch()
	careful := watch(true)
	for {
		k := t.mostTempting(careful)
		if k < 0 {
			return 0, 0
		}
		way := -t.cost(k)
		i, room := t.stop(k, way, careful)
		width := t.width(t.apart[k])
		switch {
		case width.Has && (!room.Has || width.At.Cmp(room.At) <= 0):
			t.flip(k)
			careful = watch(true)
		case room.Has:
			t.drive(i, k, end(t.lines[i].num[k].Sign()*way))
			careful = watch(room.At.Sign() != 0)
		default:
			return k, way
		}
	}
}

// mostTempting is the place whose column gains most, measured by how far all move with it; -1, if none is tempting. Carefully chosen, it is the first column that is.
func (t *table) mostTempting(careful bool) int {
	costs := t.last().num
	pulls := make([]whole.Z, len(costs))
	tempting := func(k int) bool {
		if !t.tempting(k) {
			return false
		}
		pulls[k] = t.pull(k)
		return true
	}
	return choose(len(costs), tempting, func(j, k int) bool {
		if careful {
			return t.apart[j] < t.apart[k]
		}
		return size(costs[j]).Mul(pulls[k]).Cmp(size(costs[k]).Mul(pulls[j])) > 0
	})
}

// pull is nearly how far all columns together move with the one at place k. It only helps to choose, so that parts that are cut off do not matter.
func (t *table) pull(k int) whole.Z {
	unit := whole.Of(16)
	total := unit
	for _, l := range t.lines {
		if l.num[k].Sign() != 0 {
			q, _, _ := size(l.num[k]).Mul(unit).DivMod(l.over)
			total = total.Add(q)
		}
	}
	return total
}

// stop is the line whose column is the first to come to its bound, when the one at place k goes its way, and how far that can go until then. Carefully chosen, it is the first of these columns.
func (t *table) stop(k, way int, careful bool) (which int, room linear.Bound) {
	rooms := make([]ratio.R, len(t.basic))
	stops := func(i int) bool {
		col, turn := t.basic[i], t.lines[i].num[k].Sign()*way
		if turn == 0 || !t.bound(col, end(turn)).Has {
			return false
		}
		gap := t.bound(col, end(turn)).At.Sub(t.x[col])
		rooms[i], _ = gap.Quo(t.lines[i].at(k).Mul(ratio.Int(int64(way))))
		return true
	}
	which = choose(len(t.basic), stops, func(i, j int) bool {
		if order := rooms[i].Cmp(rooms[j]); order != 0 {
			return order < 0
		}
		if careful {
			return t.basic[i] < t.basic[j]
		}
		one, other := t.lines[i], t.lines[j]
		return size(one.num[k]).Mul(other.over).Cmp(size(other.num[k]).Mul(one.over)) > 0
	})
	if which < 0 {
		return which, linear.Bound{}
	}
	return which, linear.Bound{Has: true, At: rooms[which]}
}
