package linear

import (
	"maps"

	"optima/api"
	"optima/ratio"
	"optima/tongue"
	"optima/whole"
)

// worth is what an expression comes to: a symbol, or a number and columns with numbers.
type worth struct {
	symbol  string // a word; empty, if it is none
	number  ratio.R
	columns map[int]ratio.R // by their places in the problem; none has 0
}

// told is the number that a word of the tree says. It is kept, since within an index it is asked for again and again.
func (e *expander) told(word string) worth {
	number, known := e.numbers[word]
	if !known {
		number, _ = tongue.Number(word) // Write has looked at the tree, so it is one
		e.numbers[word] = number
	}
	return worth{number: number}
}

// text is that of a symbol or of a number without columns.
func (w worth) text() string {
	if w.symbol != "" {
		return w.symbol
	}
	return w.number.Text()
}

// worth is what an expression comes to. Nobody else has its columns: they may be written into.
func (e *expander) worth(n *api.Node) worth {
	switch n.Kind {
	case api.NNumber:
		return e.told(n.Word)
	case api.NSymbol:
		return worth{symbol: n.Word}
	case api.NName:
		if w, ok := e.bound[n.Word]; ok {
			return w
		}
		return e.at(n.Word, nil)
	case api.NAt:
		return e.at(n.Word, e.texts(n.Kids))
	case api.NSum:
		return e.sum(n)
	case api.NIf:
		if e.holds(n.Kids[0]) {
			return e.worth(n.Kids[1])
		}
		return e.worth(n.Kids[2])
	case api.NNeg:
		return changed(e.linear(n.Kids[0]), ratio.R.Neg)
	}
	return e.pair(n)
}

// linear is an expression that is no symbol.
func (e *expander) linear(n *api.Node) worth {
	w := e.worth(n)
	need(w.symbol == "")
	return w
}

// single is an expression without columns.
func (e *expander) single(n *api.Node) worth {
	w := e.worth(n)
	need(len(w.columns) == 0)
	return w
}

func (e *expander) number(n *api.Node) ratio.R {
	w := e.single(n)
	need(w.symbol == "")
	return w.number
}

func (e *expander) texts(sums []*api.Node) []string {
	var out []string
	for _, sum := range sums {
		out = append(out, e.single(sum).text())
	}
	return out
}

// at is what a param or a variable is worth at a row of members.
func (e *expander) at(name string, row []string) worth {
	table := e.names[name].table
	need(table != nil && table.wide == len(row))
	w, ok := table.find(row)
	need(ok)
	w.columns = maps.Clone(w.columns)
	return w
}

func (e *expander) sum(n *api.Node) worth {
	var total worth
	e.each(n.Kids[0], func([]string) {
		merge(&total, e.linear(n.Kids[1]), e.fitting(ratio.R.Add))
	})
	return total
}

func (e *expander) pair(n *api.Node) worth {
	left, right := e.linear(n.Kids[0]), e.linear(n.Kids[1])
	switch n.Kind {
	case api.NAdd:
		merge(&left, right, e.fitting(ratio.R.Add))
		return left
	case api.NSub:
		merge(&left, right, e.fitting(ratio.R.Sub))
		return left
	case api.NMul:
		if len(left.columns) == 0 {
			left, right = right, left
		}
		need(len(right.columns) == 0)
		return changed(left, func(number ratio.R) ratio.R { return e.fit(number.Mul(right.number)) })
	}
	need(len(right.columns) == 0 && right.number.Sign() != 0)
	return changed(left, func(number ratio.R) ratio.R {
		part, _ := number.Quo(right.number)
		return e.fit(part)
	})
}

// merge puts numbers together, those of w on the right.
func merge(into *worth, w worth, rule func(a, b ratio.R) ratio.R) {
	into.number = rule(into.number, w.number)
	if into.columns == nil && len(w.columns) > 0 {
		into.columns = map[int]ratio.R{}
	}
	for col, by := range w.columns {
		total := rule(into.columns[col], by)
		if total.Sign() == 0 {
			delete(into.columns, col)
		} else {
			into.columns[col] = total
		}
	}
}

// changed has each number as a rule makes it.
func changed(w worth, rule func(ratio.R) ratio.R) worth {
	out := worth{number: rule(w.number)}
	if len(w.columns) > 0 {
		out.columns = make(map[int]ratio.R, len(w.columns))
	}
	for col, by := range w.columns {
		if total := rule(by); total.Sign() != 0 {
			out.columns[col] = total
		}
	}
	return out
}

// fitting is a rule that makes no number of too many digits.
func (e *expander) fitting(rule func(a, b ratio.R) ratio.R) func(a, b ratio.R) ratio.R {
	return func(a, b ratio.R) ratio.R { return e.fit(rule(a, b)) }
}

func (e *expander) fit(number ratio.R) ratio.R {
	need(e.short(number.Num()) && e.short(number.Den()))
	return number
}

// short is whether a number has no more than MaxBig digits.
func (e *expander) short(z whole.Z) bool {
	if _, near := z.Int64(); near { // as it mostly is
		return true
	}
	return z.Cmp(e.tooBig) < 0 && z.Neg().Cmp(e.tooBig) < 0
}

// holds is whether a condition holds.
func (e *expander) holds(n *api.Node) bool {
	switch n.Kind {
	case api.NOr:
		return e.holds(n.Kids[0]) || e.holds(n.Kids[1])
	case api.NAnd:
		return e.holds(n.Kids[0]) && e.holds(n.Kids[1])
	case api.NNot:
		return !e.holds(n.Kids[0])
	case api.NSame:
		return e.single(n.Kids[0]).text() == e.single(n.Kids[1]).text()
	case api.NOther:
		return e.single(n.Kids[0]).text() != e.single(n.Kids[1]).text()
	}
	return ordered(n.Kind, e.number(n.Kids[0]).Cmp(e.number(n.Kids[1])))
}

// ordered is whether two numbers that compare so are as a comparison asks for.
func ordered(kind, order int) bool {
	switch kind {
	case api.NLess:
		return order < 0
	case api.NUpTo:
		return order <= 0
	case api.NFrom:
		return order >= 0
	}
	return order > 0
}
