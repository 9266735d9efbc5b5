package finite

import "slices"

// board is what is left of the lists, and the steps by which the rest has gone.
type board struct {
	lists   [][]int // the values of each variable
	number  [][]int // of each variable, and each place of its list, which of all values stands there
	many    int     // how many values there are
	root    []set   // of each variable the places that are left ahead of all choices
	left    []set   // of each variable the places that are left
	steps   []step
	by      reason // what takes places away now; nil: a choice
	learned int    // how many lessons there have been
}

// step is places of a variable's list that have gone at once.
type step struct {
	v    int
	gone set
	by   reason
}

// reason is what takes places away.
type reason interface {
	// why is asked about places of v that have gone by a step, on the board as it was ahead of it. It blames places that had gone before, and answers places of v that cannot be because of these; at least one that is asked about is among them.
	why(b *board, v int, asked set, blame func(v int, gone set)) set
}

func boardOf(lists [][]int) *board {
	all := slices.Concat(lists...)
	slices.Sort(all)
	all = slices.Compact(all)
	b := &board{lists: lists, many: len(all)}
	for _, list := range lists {
		b.left = append(b.left, upTo(len(list)))
		b.number = append(b.number, placesIn(all, list))
	}
	b.root = slices.Clone(b.left)
	return b
}

// placesIn is where values stand in a list; -1: nowhere.
func placesIn(list, values []int) []int {
	out := make([]int, len(values))
	for i, value := range values {
		at, found := slices.BinarySearch(list, value)
		if !found {
			at = -1
		}
		out[i] = at
	}
	return out
}

// isOpen is whether something is left of all lists.
func (b *board) isOpen() bool { return !slices.ContainsFunc(b.left, set.isEmpty) }

// drop takes away places that are left; false, if nothing is left then.
func (b *board) drop(v int, gone set) bool {
	if gone.isEmpty() {
		return true
	}
	b.left[v] = b.left[v].less(gone)
	b.steps = append(b.steps, step{v, gone, b.by})
	return !b.left[v].isEmpty()
}

// keep takes away all places but good ones; false, if nothing is left then.
func (b *board) keep(v int, good func(at int) bool) bool {
	left := b.left[v]
	var gone set
	for at := left.first(); at >= 0; at = left.next(at + 1) {
		if !good(at) {
			gone.add(at)
		}
	}
	return b.drop(v, gone)
}

// places is where values stand that are meant; one that has gone ahead of all choices stands nowhere.
func (b *board) places(v int, meant func(value int) bool) set {
	root := b.root[v]
	var out set
	for at := root.first(); at >= 0; at = root.next(at + 1) {
		if meant(b.lists[v][at]) {
			out.add(at)
		}
	}
	return out
}

func (b *board) least(v int) int { return b.lists[v][b.left[v].first()] }

func (b *board) greatest(v int) int { return b.lists[v][b.left[v].last()] }

// values is what is left of each list.
func (b *board) values() [][]int {
	out := make([][]int, len(b.lists))
	for v, left := range b.left {
		for at := left.first(); at >= 0; at = left.next(at + 1) {
			out[v] = append(out[v], b.lists[v][at])
		}
	}
	return out
}
