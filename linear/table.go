package linear

import (
	"optima/api"
)

// step is a text behind a place.
type step struct {
	from int
	text string
}

// table has what a param or a variable is worth at rows of members, all of one length.
//
// A row is a way from place to place, text by text: rows that begin alike share it, so that long rows need no more room than the members that were gone through.
type table struct {
	wide  int // how many members a row has
	steps map[step]int
	cells []worth // at the places; only those where rows end count
}

func newTable(index *api.Node) *table {
	return &table{wide: max(len(index.Kids)-1, 0), steps: map[step]int{}, cells: make([]worth, 1)}
}

// put keeps what a row is worth.
func (t *table) put(row []string, w worth) {
	place := 0
	for _, text := range row {
		way := step{place, text}
		next, known := t.steps[way]
		if !known {
			next = len(t.cells)
			t.steps[way] = next
			t.cells = append(t.cells, worth{})
		}
		place = next
	}
	t.cells[place] = w
}

// find is what a row is worth, if it was put.
func (t *table) find(row []string) (worth, bool) {
	place := 0
	for _, text := range row {
		next, known := t.steps[step{place, text}]
		if !known {
			return worth{}, false
		}
		place = next
	}
	return t.cells[place], true
}
