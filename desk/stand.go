package desk

import (
	"optima/api"
	"optima/linear"
)

// stand is where columns and rows' sums stood when a look for the best ended. It goes by names, since by the next look there may be others, at other places.
type stand struct{ cols, rows map[string]int }

func standOf(p *linear.Problem, where []int) *stand {
	s := &stand{cols: map[string]int{}, rows: map[string]int{}}
	for i, at := range where {
		if i < len(p.Cols) {
			s.cols[p.Cols[i].Name] = at
		} else {
			s.rows[p.Rows[i-len(p.Cols)].Name] = at
		}
	}
	return s
}

// in is the same of a problem that has changed since. It is no basis, if too few or too many that were Basic are left, or they do not follow from the others any more.
func (s *stand) in(p *linear.Problem) []int {
	var where []int
	for _, col := range p.Cols {
		where = append(where, place(s.cols[col.Name], col.Low, col.High)) // one that is new is taken as Loose
	}
	for _, row := range p.Rows {
		at, elder := s.rows[row.Name]
		if !elder { // so that all that follow from the others still do
			at = api.Basic
		}
		where = append(where, place(at, row.Low, row.High))
	}
	return where
}

// place is where one with such bounds can stand that stood at a place: there, if it can.
func place(at int, low, high linear.Bound) int {
	switch {
	case at == api.Basic, at == api.High && high.Has:
		return at
	case low.Has:
		return api.Low
	case high.Has:
		return api.High
	}
	return api.Loose
}
