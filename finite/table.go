package finite

import "slices"

// table is that one of the rows is just the values.
type table struct {
	over
	rows [][]int
	laid [][]int // of the rows that can be at all, at which places of the lists their values stand
}

func (t *table) keeps(x []int) bool {
	values := t.pick(x)
	return slices.ContainsFunc(t.rows, func(row []int) bool { return slices.Equal(row, values) })
}

func (t *table) lay(b *board) {
	for _, row := range t.rows {
		if places, can := t.places(b, row); can {
			t.laid = append(t.laid, places)
		}
	}
}

// places is false, if a value is not in its list, or a variable has two values.
func (t *table) places(b *board, row []int) ([]int, bool) {
	out := make([]int, len(row))
	for i, v := range t.vars {
		at, found := slices.BinarySearch(b.lists[v], row[i])
		if !found || row[slices.Index(t.vars, v)] != row[i] {
			return nil, false
		}
		out[i] = at
	}
	return out, true
}

func (t *table) narrow(b *board) bool {
	seen := make([]set, len(t.vars))
	for _, row := range t.laid {
		if t.lost(b, row) < 0 {
			for i, at := range row {
				seen[i].add(at)
			}
		}
	}
	for i, v := range t.vars {
		if !b.keep(v, seen[i].has) {
			return false
		}
	}
	return true
}

// lost is the first of the variables that has not the row's value any more; -1, if all have it.
func (t *table) lost(b *board, row []int) int {
	for i, v := range t.vars {
		if !b.left[v].has(row[i]) {
			return i
		}
	}
	return -1
}

// why: each row that has such a value has lost another one.
func (t *table) why(b *board, v int, asked set, blame func(v int, gone set)) set {
	own := slices.Index(t.vars, v)
	for _, row := range t.laid {
		if asked.has(row[own]) {
			i := t.lost(b, row)
			blame(t.vars[i], only(row[i]))
		}
	}
	return asked
}
