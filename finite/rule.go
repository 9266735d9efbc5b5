package finite

import "optima/api"

// rule is a constraint.
type rule interface {
	reason
	// keeps is whether values, one for each variable, keep it.
	keeps(x []int) bool
	// lay lays it on a board, ahead of narrow and why.
	lay(b *board)
	// narrow takes away what cannot be by this rule alone; false, if nothing is left of a list. When something has gone, more may go.
	narrow(b *board) bool
}

// over is what all kinds have: the variables that they are over.
type over struct{ vars []int }

// lay: most kinds need nothing ahead.
func (o over) lay(*board) {}

// pick is the values of these variables.
func (o over) pick(x []int) []int {
	out := make([]int, len(o.vars))
	for i, v := range o.vars {
		out[i] = x[v]
	}
	return out
}

// ruleOf is a valid constraint as a rule.
func ruleOf(con api.Con) rule {
	o := over{con.Vars}
	switch con.Kind {
	case api.ConDiffer:
		return &differ{over: o}
	case api.ConSum:
		return &sum{o, con.Nums, int64(con.Limit)}
	case api.ConTable:
		return &table{over: o, rows: con.Rows}
	case api.ConElement:
		return &element{place: con.Vars[0], value: con.Vars[1], over: over{con.Vars[2:]}}
	}
	return &share{o, con.Nums, con.Uses, int64(con.Limit)}
}

func rulesOf(p api.Puzzle) []rule {
	out := make([]rule, len(p.Cons))
	for i, con := range p.Cons {
		out[i] = ruleOf(con)
	}
	return out
}
