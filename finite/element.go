package finite

// element is that of some variables the one at a place has a value.
type element struct {
	place, value int // the variables that say which place, and which value
	over
	meant []int   // of each place of the first list, which of the others it means; -1: none
	where [][]int // of each of the others, and each place of the second list, where the same value stands in its own; -1: nowhere
}

func (e *element) keeps(x []int) bool {
	i := x[e.place]
	return i >= 0 && i < len(e.vars) && x[e.vars[i]] == x[e.value]
}

func (e *element) lay(b *board) {
	for _, i := range b.lists[e.place] {
		if i < 0 || i >= len(e.vars) {
			i = -1
		}
		e.meant = append(e.meant, i)
	}
	for _, v := range e.vars {
		e.where = append(e.where, placesIn(b.lists[v], b.lists[e.value]))
	}
}

func (e *element) narrow(b *board) bool {
	if !b.keep(e.place, func(at int) bool { return e.canMean(b, e.meant[at]) }) {
		return false
	}
	if !b.keep(e.value, func(at int) bool { return e.canBe(b, at) }) {
		return false
	}
	if !b.left[e.place].isOne() {
		return true
	}
	i := e.meant[b.left[e.place].first()]
	return b.keep(e.vars[i], e.wanted(b, i).has)
}

// canMean is whether there is an i-th one, and it has a value in common with the second list.
func (e *element) canMean(b *board, i int) bool {
	return i >= 0 && e.wanted(b, i).meets(b.left[e.vars[i]])
}

// wanted is where in the list of the i-th one values stand that the second list has.
func (e *element) wanted(b *board, i int) set {
	left := b.left[e.value]
	var out set
	for at := left.first(); at >= 0; at = left.next(at + 1) {
		if there := e.where[i][at]; there >= 0 {
			out.add(there)
		}
	}
	return out
}

// canBe is whether one that is at a place of the first list has what stands at this place of the second.
func (e *element) canBe(b *board, at int) bool {
	left := b.left[e.place]
	for place := left.first(); place >= 0; place = left.next(place + 1) {
		if i := e.meant[place]; i >= 0 && e.where[i][at] >= 0 && b.left[e.vars[i]].has(e.where[i][at]) {
			return true
		}
	}
	return false
}

func (e *element) why(b *board, v int, asked set, blame func(v int, gone set)) set {
	at := asked.first()
	switch {
	case v == e.place && !e.canMean(b, e.meant[at]):
		e.whyNotMeant(b, e.meant[at], blame)
		return only(at)
	case v == e.value && !e.canBe(b, at):
		e.whyNot(b, at, blame)
		return only(at)
	}
	return e.whyUnwanted(b, asked, blame)
}

// whyNotMeant blames of each value that the two lists had in common that one has lost it.
func (e *element) whyNotMeant(b *board, i int, blame func(v int, gone set)) {
	if i < 0 {
		return
	}
	for at, there := range e.where[i] {
		switch {
		case there < 0:
		case !b.left[e.value].has(at):
			blame(e.value, only(at))
		default:
			blame(e.vars[i], only(there))
		}
	}
}

// whyNot blames of each one that had the value that it has lost it, or cannot be meant.
func (e *element) whyNot(b *board, at int, blame func(v int, gone set)) {
	for place, i := range e.meant {
		switch {
		case i < 0 || e.where[i][at] < 0:
		case !b.left[e.place].has(place):
			blame(e.place, only(place))
		default:
			blame(e.vars[i], only(e.where[i][at]))
		}
	}
}

// whyUnwanted blames that one alone can be meant, and the second list has lost these values.
func (e *element) whyUnwanted(b *board, asked set, blame func(v int, gone set)) set {
	place := b.left[e.place].first()
	i := e.meant[place]
	blame(e.place, b.root[e.place].less(only(place)))
	unwanted := asked.less(e.wanted(b, i))
	for at, there := range e.where[i] {
		if there >= 0 && unwanted.has(there) {
			blame(e.value, only(at))
		}
	}
	return unwanted
}
