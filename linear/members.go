package linear

import (
	"optima/api"
	"optima/ratio"
)

// member is one of a set. Its text tells it apart from others.
type member struct {
	text  string
	value worth
}

func memberOf(value worth) member { return member{text: value.text(), value: value} }

// set is a set's members, no two of one text.
func (e *expander) set(n *api.Node) []member {
	switch n.Kind {
	case api.NItems:
		return together(e.listed(n.Kids))
	case api.NRange:
		return e.span(n)
	case api.NUnion:
		return together(e.set(n.Kids[0]), e.set(n.Kids[1]))
	case api.NInter:
		return kept(e.set(n.Kids[0]), e.set(n.Kids[1]), true)
	case api.NMinus:
		return kept(e.set(n.Kids[0]), e.set(n.Kids[1]), false)
	}
	known := e.names[n.Word]
	need(known.kind == api.NSet)
	return known.members
}

func (e *expander) listed(items []*api.Node) []member {
	var out []member
	for _, item := range items {
		value := worth{symbol: item.Word}
		if first := item.Word[0]; first == '-' || first >= '0' && first <= '9' {
			value = e.told(item.Word)
		}
		out = append(out, memberOf(value))
	}
	return out
}

func (e *expander) span(n *api.Node) []member {
	low, high := e.number(n.Kids[0]), e.number(n.Kids[1])
	need(low.IsWhole() && high.IsWhole())
	var out []member
	for number := low; number.Cmp(high) <= 0; number = number.Add(ratio.Int(1)) {
		need(len(out) < api.MaxSet)
		out = append(out, memberOf(worth{number: number}))
	}
	return out
}

// together is all members, each text where it comes first.
func together(lists ...[]member) []member {
	var out []member
	seen := map[string]int{}
	for _, list := range lists {
		for _, m := range list {
			seen[m.text]++
			if seen[m.text] > 1 {
				continue
			}
			need(len(out) < api.MaxSet)
			out = append(out, m)
		}
	}
	return out
}

// kept is those members that the others have, or those that they have not.
func kept(list, others []member, have bool) []member {
	theirs := map[string]int{}
	for _, m := range others {
		theirs[m.text]++
	}
	var out []member
	for _, m := range list {
		if (theirs[m.text] > 0) == have {
			out = append(out, m)
		}
	}
	return out
}

// each has a function hear the texts of each row of members that an index goes through; meanwhile its names are bound.
func (e *expander) each(index *api.Node, hear func(row []string)) {
	last := len(index.Kids) - 1
	if last < 0 {
		hear(nil)
		return
	}
	condition := index.Kids[last]
	e.through(index.Kids[:last], nil, func(row []string) {
		if condition.Kind == api.NNone || e.holds(condition) {
			hear(row)
		}
	})
}

// through goes through the generators that are left, behind the members of those ahead.
func (e *expander) through(generators []*api.Node, row []string, hear func(row []string)) {
	if len(generators) == 0 {
		hear(row)
		return
	}
	name := generators[0].Word
	_, bound := e.bound[name]
	_, taken := e.names[name]
	need(!bound && !taken)
	for _, m := range e.set(generators[0].Kids[0]) {
		e.steps++
		need(e.steps <= api.MaxSteps)
		e.bound[name] = m.value
		e.through(generators[1:], append(row, m.text), hear)
	}
	delete(e.bound, name)
}
