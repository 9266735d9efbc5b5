package finite

import (
	"slices"

	"optima/api"
)

// differ is that all values differ.
//
// Each one holds a value, and no two the same. What they hold is kept from one look to the next, since most of it can stay.
type differ struct {
	over
	held   []int // of each the place that it holds; -1: none
	holder []int // of each value who holds it; -1: nobody
}

// group is some of those that differ, a bit for each: they are at most MaxVars.
type group uint64

func (g group) has(i int) bool { return g>>i&1 == 1 }

func (d *differ) keeps(x []int) bool {
	values := d.pick(x)
	slices.Sort(values)
	return len(slices.Compact(values)) == len(d.vars)
}

func (d *differ) lay(b *board) {
	d.held, d.holder = slices.Repeat([]int{-1}, len(d.vars)), slices.Repeat([]int{-1}, b.many)
}

// narrow: a value that another one holds can be, if that one can go over, by others giving way, to a value that nobody holds, or to the one that is given up for it.
func (d *differ) narrow(b *board) bool {
	d.leave(b)
	for i, v := range d.vars {
		if d.held[i] < 0 && !d.find(b, i, new(group)) {
			return b.drop(v, b.left[v])
		}
	}
	ways, free := d.ways(b)
	for i, v := range d.vars {
		good := b.keep(v, func(at int) bool {
			j := d.holder[b.number[v][at]]
			return j < 0 || ways[j].has(i) || ways[j]&free != 0
		})
		if !good {
			return false
		}
	}
	return true
}

// leave gives up what is not left any more.
func (d *differ) leave(b *board) {
	for i, v := range d.vars {
		if at := d.held[i]; at >= 0 && !b.left[v].has(at) {
			d.giveUp(b, i)
		}
	}
}

func (d *differ) giveUp(b *board, i int) {
	if at := d.held[i]; at >= 0 {
		d.holder[b.number[d.vars[i]][at]], d.held[i] = -1, -1
	}
}

func (d *differ) hold(b *board, i, at int) {
	d.holder[b.number[d.vars[i]][at]], d.held[i] = i, at
}

// find lets the i-th one hold a value, and whoever held it find another one; those in asked are not asked any more. If it fails, whoever has been asked has nothing but what those in asked hold.
func (d *differ) find(b *board, i int, asked *group) bool {
	*asked |= 1 << i
	v := d.vars[i]
	left := b.left[v]
	for at := left.first(); at >= 0; at = left.next(at + 1) {
		if d.holder[b.number[v][at]] < 0 {
			d.hold(b, i, at)
			return true
		}
	}
	for at := left.first(); at >= 0; at = left.next(at + 1) {
		if j := d.holder[b.number[v][at]]; !asked.has(j) && d.find(b, j, asked) {
			d.hold(b, i, at)
			return true
		}
	}
	return false
}

// ways is of each one those to whose values it can go over, itself among them; and who can take a value that nobody holds.
func (d *differ) ways(b *board) (ways [api.MaxVars]group, free group) {
	for i, v := range d.vars {
		left := b.left[v]
		for at := left.first(); at >= 0; at = left.next(at + 1) {
			if j := d.holder[b.number[v][at]]; j >= 0 {
				ways[i] |= 1 << j
			} else {
				free |= 1 << i
			}
		}
	}
	for middle := range d.vars {
		for i := range d.vars {
			if ways[i].has(middle) {
				ways[i] |= ways[middle]
			}
		}
	}
	return ways, free
}

// why: when one of them holds the value, some others have nothing but what that one and they hold, as many values as they are. So that one can have none of these.
func (d *differ) why(b *board, v int, asked set, blame func(v int, gone set)) set {
	one := slices.Index(d.vars, v)
	some := d.crowd(b, one, asked.first())
	theirs := func(w int) set {
		var out set
		for at, value := range b.number[w] {
			if j := d.holder[value]; j >= 0 && some.has(j) {
				out.add(at)
			}
		}
		return out
	}
	for i, w := range d.vars {
		if i != one && some.has(i) {
			blame(w, b.root[w].less(theirs(w)))
		}
	}
	return theirs(v)
}

// crowd lets one hold a place that it cannot have, and answers it and some for whom not enough is left.
func (d *differ) crowd(b *board, one, at int) group {
	d.leave(b)
	d.giveUp(b, one)
	if j := d.holder[b.number[d.vars[one]][at]]; j >= 0 {
		d.giveUp(b, j)
	}
	d.hold(b, one, at)
	for i := range d.vars {
		some := group(1) << one
		if d.held[i] < 0 && !d.find(b, i, &some) {
			return some
		}
	}
	return 0
}
