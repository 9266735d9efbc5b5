package desk

import (
	"fmt"
	"slices"

	"optima/api"
)

// model is the chapter's words taken one by one, over problems in texts, each a whole copy.
type model struct{ all []api.Spec }

func (m *model) now() api.Spec { return m.all[len(m.all)-1] }

func copyOf(s api.Spec) api.Spec {
	s.Cols = slices.Clone(s.Cols)
	s.Rows = slices.Clone(s.Rows)
	for i, row := range s.Rows {
		s.Rows[i].Cols, s.Rows[i].By = slices.Clone(row.Cols), slices.Clone(row.By)
	}
	return s
}

// take puts the changed problem behind the others, if it is one.
func (m *model) take(s api.Spec) error {
	if err := wrong(s); err != nil {
		return err
	}
	m.all = append(m.all, s)
	return nil
}

func (m *model) cost(name, cost string) error {
	s := copyOf(m.now())
	for i := range s.Cols {
		if s.Cols[i].Name == name {
			s.Cols[i].Cost = cost
			return m.take(s)
		}
	}
	return api.ErrName
}

func (m *model) bounds(name, low, high string) error {
	s := copyOf(m.now())
	for i := range s.Cols {
		if s.Cols[i].Name == name {
			s.Cols[i].Low, s.Cols[i].High = low, high
			return m.take(s)
		}
	}
	return api.ErrName
}

func (m *model) turn() error {
	s := copyOf(m.now())
	s.Max = !s.Max
	return m.take(s)
}

func (m *model) col(c api.ColSpec) error {
	s := copyOf(m.now())
	s.Cols = append(s.Cols, c)
	return m.take(s)
}

func (m *model) row(r api.RowSpec) error {
	s := m.now()
	s.Rows = append(slices.Clone(s.Rows), r)
	return m.take(copyOf(s))
}

func (m *model) drop(name string) error {
	s := copyOf(m.now())
	var left []api.RowSpec
	for _, row := range s.Rows {
		if row.Name != name {
			left = append(left, row)
		}
	}
	if len(left) == len(s.Rows) {
		return api.ErrName
	}
	s.Rows = left
	return m.take(s)
}

func (m *model) undo() bool {
	if len(m.all) == 1 {
		return false
	}
	m.all = m.all[:len(m.all)-1]
	return true
}

// wrong is what P50 says of a problem.
func wrong(s api.Spec) error {
	if len(s.Cols) > 120 || len(s.Rows) > 120 {
		return api.ErrBound
	}
	for i, c := range s.Cols {
		if c.Name == "" || slices.ContainsFunc(s.Cols[:i], func(o api.ColSpec) bool { return o.Name == c.Name }) {
			return api.ErrName
		}
	}
	for i, r := range s.Rows {
		if r.Name == "" || slices.ContainsFunc(s.Rows[:i], func(o api.RowSpec) bool { return o.Name == r.Name }) {
			return api.ErrName
		}
	}
	for _, r := range s.Rows {
		for k, col := range r.Cols {
			if col < 0 || col >= len(s.Cols) || k > 0 && col <= r.Cols[k-1] || r.By[k] == "0" {
				return api.ErrShape
			}
		}
	}
	return nil
}

// said is a problem as one text; a nil list and an empty one are one thing.
func said(s api.Spec) string { return fmt.Sprintf("%+v", s) }
