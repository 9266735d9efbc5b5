package simplex

import (
	"optima/api"
	"optima/linear"
)

// settled is the problem by a basis; ErrBasis, if it is none.
func settled(p *linear.Problem, where []int) (*table, error) {
	if err := linear.Valid(p); err != nil {
		return nil, err
	}
	t := newTable(p)
	if !t.fits(where) {
		return nil, api.ErrBasis
	}
	copy(t.where, where)
	if !t.follow() {
		return nil, api.ErrBasis
	}
	t.tell()
	return t, nil
}

// fits is whether each column can stand where it is said to, and just as many are Basic as there are rows.
func (t *table) fits(where []int) bool {
	if len(where) != len(t.where) {
		return false
	}
	count := 0
	for col, at := range where {
		low, high := t.low[col].Has, t.high[col].Has
		switch {
		case at == api.Basic:
			count++
		case at == api.Low && low, at == api.High && high, at == api.Loose && !low && !high:
		default:
			return false
		}
	}
	return count == len(t.basic)
}

// follow lets columns that are said to be Basic come into the lines, for those that are not, until each is where it is said to be; false: they do not follow from the others.
func (t *table) follow() bool {
	goers := 0
	for _, col := range t.basic {
		if t.where[col] != api.Basic {
			goers++
		}
	}
	for range goers {
		i, k := t.thinnest()
		if i < 0 {
			return false
		}
		t.swap(i, k)
	}
	return true
}

// thinnest is a line whose column is to go, and a place in it whose column is to come: of those with a number other than 0 one by which few noughts of the table are lost. If there are none: -1.
func (t *table) thinnest() (which, place int) {
	along, down := t.fill()
	which, place = -1, -1
	least := 0
	for i, l := range t.lines {
		if t.where[t.basic[i]] == api.Basic {
			continue
		}
		for k, z := range l.num {
			if z.Sign() == 0 || t.where[t.apart[k]] != api.Basic {
				continue
			}
			if lost := (along[i] - 1) * (down[k] - 1); which < 0 || lost < least {
				which, place, least = i, k, lost
			}
		}
	}
	return which, place
}

// fill is how many numbers other than 0 stand in each line, and at each place.
func (t *table) fill() (along, down []int) {
	along, down = make([]int, len(t.basic)), make([]int, len(t.apart))
	for i, l := range t.lines {
		for k, z := range l.num {
			if z.Sign() != 0 {
				along[i]++
				down[k]++
			}
		}
	}
	return along, down
}
