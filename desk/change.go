package desk

import (
	"slices"

	"optima/api"
	"optima/linear"
)

// change puts a copy of the problem, changed by alter, in its place; with an error nothing is changed.
//
// Only the problem itself is copied here: alter makes new those lists that it writes into, and all others are shared, so that many changes can be kept.
func (d *Desk) change(alter func(p *linear.Problem) error) error {
	if d == nil || d.now == nil { // the desk that stands beside an error of New
		return api.ErrShape
	}
	next := *d.now
	if err := alter(&next); err != nil {
		return err
	}
	if err := linear.Valid(&next); err != nil {
		return err
	}
	d.past = append(d.past, d.now)
	d.now = &next
	return nil
}

// toColumn is the change that alters the column of that name.
func toColumn(name string, alter func(c *linear.Col)) func(p *linear.Problem) error {
	return func(p *linear.Problem) error {
		i := slices.IndexFunc(p.Cols, func(c linear.Col) bool { return c.Name == name })
		if i < 0 {
			return api.ErrName
		}
		p.Cols = slices.Clone(p.Cols)
		alter(&p.Cols[i])
		return nil
	}
}
