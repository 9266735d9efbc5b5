package linear

import (
	"cmp"
	"slices"
	"strings"

	"optima/api"
	"optima/ratio"
	"optima/tongue"
	"optima/whole"
)

// Expand is the problem that a tree says.
func Expand(t *api.Node) (*Problem, error) {
	if _, err := tongue.Write(t); err != nil {
		return nil, api.ErrShape
	}
	e := newExpander()
	for i, statement := range t.Kids {
		if !hasSense(func() { e.statement(statement) }) {
			return nil, &api.Fault{At: i, Err: api.ErrSense}
		}
	}
	return e.problem, nil
}

// noSense is thrown where a statement has none.
type noSense struct{}

func need(sense bool) {
	if !sense {
		panic(noSense{})
	}
}

// hasSense is whether a rule comes to its end. What is thrown beside noSense is not held back.
func hasSense(rule func()) (sense bool) {
	defer func() {
		thrown := recover()
		if thrown == nil {
			return
		}
		if _, ok := thrown.(noSense); !ok {
			panic(thrown)
		}
		sense = false
	}()
	rule()
	return true
}

// made is what a statement made: a set's members, or what a param or a variable is worth.
type made struct {
	kind    int // the statement's
	members []member
	table   *table
}

// expander is a problem as far as it is told.
type expander struct {
	problem *Problem
	names   map[string]made    // of the statements ahead
	bound   map[string]worth   // by the indices around
	numbers map[string]ratio.R // by the words that say them
	steps   int                // members that the statement has gone through
	aimed   bool               // there is a goal
	tooBig  whole.Z            // the least number of too many digits
}

func newExpander() *expander {
	return &expander{
		problem: &Problem{},
		names:   map[string]made{},
		bound:   map[string]worth{},
		numbers: map[string]ratio.R{},
		tooBig:  tenTo(api.MaxBig),
	}
}

// tenTo is 10^exponent, by halves.
func tenTo(exponent int) whole.Z {
	if exponent == 0 {
		return whole.Of(1)
	}
	half := tenTo(exponent / 2)
	if exponent%2 == 0 {
		return half.Mul(half)
	}
	return half.Mul(half).Mul(whole.Of(10))
}

// statement keeps the name only when all is told: a statement can't name what it makes itself.
func (e *expander) statement(n *api.Node) {
	_, taken := e.names[n.Word]
	need(!taken)
	e.steps = 0
	out := made{kind: n.Kind}
	switch n.Kind {
	case api.NSet:
		out.members = e.set(n.Kids[0])
	case api.NParam:
		out.table = e.param(n)
	case api.NData:
		out.table = e.data(n)
	case api.NVar, api.NInteger, api.NBinary:
		out.table = e.variable(n)
	case api.NMinimize, api.NMaximize:
		e.goal(n)
	default:
		e.each(n.Kids[0], func(row []string) { e.row(n, row) })
	}
	e.names[n.Word] = out
}

func (e *expander) param(n *api.Node) *table {
	index, expression := n.Kids[0], n.Kids[1]
	out := newTable(index)
	e.each(index, func(row []string) {
		out.put(row, worth{number: e.number(expression)})
	})
	return out
}

// data puts the entries down first. No row of an index comes twice, so an entry too many, twice or outside of the index, is one that is not met.
func (e *expander) data(n *api.Node) *table {
	index, entries := n.Kids[0], n.Kids[1:]
	var rest *api.Node // the default
	if last := len(entries) - 1; last >= 0 && entries[last].Kind == api.NNumber {
		entries, rest = entries[:last], entries[last]
	}
	out := newTable(index)
	for _, entry := range entries {
		last := len(entry.Kids) - 1
		need(last == out.wide)
		out.put(words(entry.Kids[:last]), e.told(entry.Kids[last].Word))
	}
	met := 0
	e.each(index, func(row []string) {
		if _, ok := out.find(row); ok {
			met++
			return
		}
		need(rest != nil)
		out.put(row, e.told(rest.Word))
	})
	need(met == len(entries))
	return out
}

func words(items []*api.Node) []string {
	var out []string
	for _, item := range items {
		out = append(out, item.Word)
	}
	return out
}

func (e *expander) variable(n *api.Node) *table {
	index, low, high := n.Kids[0], n.Kids[1], n.Kids[2]
	out := newTable(index)
	e.each(index, func(row []string) {
		place := len(e.problem.Cols)
		need(place < api.MaxCols)
		out.put(row, worth{columns: map[int]ratio.R{place: ratio.Int(1)}})
		col := Col{Name: nameAt(n.Word, row), Whole: n.Kind != api.NVar, Low: e.limit(low), High: e.limit(high)}
		if n.Kind == api.NBinary {
			col.Low, col.High = boundAt(ratio.Int(0)), boundAt(ratio.Int(1))
		}
		e.problem.Cols = append(e.problem.Cols, col)
	})
	return out
}

// limit is a bound of a variable.
func (e *expander) limit(n *api.Node) Bound {
	if n.Kind == api.NNone {
		return Bound{}
	}
	return boundAt(e.number(n))
}

func boundAt(number ratio.R) Bound { return Bound{Has: true, At: number} }

// nameAt is the name of a column or a row. No two are the same: no member's text has a comma.
func nameAt(word string, row []string) string {
	if len(row) == 0 {
		return word
	}
	return word + "[" + strings.Join(row, ",") + "]"
}

func (e *expander) goal(n *api.Node) {
	need(!e.aimed)
	e.aimed = true
	sum := e.linear(n.Kids[0])
	e.problem.Max = n.Kind == api.NMaximize
	e.problem.Shift = sum.number
	for col, cost := range sum.columns {
		e.problem.Cols[col].Cost = cost
	}
}

func (e *expander) row(n *api.Node, members []string) {
	need(len(e.problem.Rows) < api.MaxRows)
	row := Row{Name: nameAt(n.Word, members)}
	var sum worth
	if len(n.Kids) == 4 {
		var first, last ratio.R
		first, sum, last = e.number(n.Kids[1]), e.linear(n.Kids[2]), e.number(n.Kids[3])
		row.Low, row.High = boundAt(first.Sub(sum.number)), boundAt(last.Sub(sum.number))
		if n.Kind == api.NAtLeast {
			row.Low, row.High = row.High, row.Low
		}
	} else {
		sum = e.linear(n.Kids[1])
		merge(&sum, e.linear(n.Kids[2]), ratio.R.Sub)
		row.Low, row.High = sides(n.Kind, boundAt(sum.number.Neg()))
	}
	row.Terms = termsOf(sum.columns)
	e.problem.Rows = append(e.problem.Rows, row)
}

// sides are the bounds of a row of two sums.
func sides(kind int, bound Bound) (low, high Bound) {
	if kind != api.NAtMost {
		low = bound
	}
	if kind != api.NAtLeast {
		high = bound
	}
	return low, high
}

func termsOf(columns map[int]ratio.R) []Term {
	var out []Term
	for col, by := range columns {
		out = append(out, Term{Col: col, By: by})
	}
	slices.SortFunc(out, func(a, b Term) int { return cmp.Compare(a.Col, b.Col) })
	return out
}
