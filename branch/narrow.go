package branch

import (
	"slices"
	"strconv"

	"optima/linear"
	"optima/ratio"
)

// lower leaves a column nothing above a number.
func lower(col *linear.Col, at ratio.R) {
	if !col.High.Has || at.Cmp(col.High.At) < 0 {
		col.High = linear.Bound{Has: true, At: at}
	}
}

// raise leaves a column nothing below a number and 1.
func raise(col *linear.Col, at ratio.R) {
	at = at.Add(ratio.Int(1))
	if !col.Low.Has || at.Cmp(col.Low.At) > 0 {
		col.Low = linear.Bound{Has: true, At: at}
	}
}

// narrowed is a problem with one column's bounds made tighter. It shares the rows, which nobody changes.
func narrowed(p *linear.Problem, col int, tighten func(*linear.Col, ratio.R), at ratio.R) *linear.Problem {
	out := *p
	out.Cols = slices.Clone(p.Cols)
	tighten(&out.Cols[col], at)
	return &out
}

// withRow is a problem with one more row, behind the others, under a name of its own.
func withRow(p *linear.Problem, row linear.Row) *linear.Problem {
	out := *p
	row.Name = freeName(p.Rows)
	out.Rows = append(slices.Clip(p.Rows), row)
	return &out
}

// freeName is a name that no row has.
func freeName(rows []linear.Row) string {
	number := len(rows)
next:
	for {
		name := "cut" + strconv.Itoa(number)
		for _, row := range rows {
			if row.Name == name {
				number++
				continue next
			}
		}
		return name
	}
}
