package nets

import (
	"strconv"

	"optima/linear"
	"optima/ratio"
)

// problem has a column for each arc, and a row for each node.
func problem(arcs []Arc, supply []ratio.R) *linear.Problem {
	p := &linear.Problem{}
	for i, much := range supply {
		p.Rows = append(p.Rows, linear.Row{Name: "node" + strconv.Itoa(i), Low: boundAt(much), High: boundAt(much)})
	}
	for i, arc := range arcs {
		p.Cols = append(p.Cols, linear.Col{Name: "arc" + strconv.Itoa(i), Low: boundAt(ratio.R{}), High: boundAt(arc.Cap), Cost: arc.Cost})
		if arc.From != arc.To {
			addTerm(&p.Rows[arc.From], i, 1)
			addTerm(&p.Rows[arc.To], i, -1)
		}
	}
	return p
}

func boundAt(number ratio.R) linear.Bound { return linear.Bound{Has: true, At: number} }

func addTerm(row *linear.Row, col int, by int64) {
	row.Terms = append(row.Terms, linear.Term{Col: col, By: ratio.Int(by)})
}
