package tongue

import (
	"strings"

	"optima/api"
	"optima/ratio"
)

// reader is a text, the token that is looked at, and how many things are open around it.
type reader struct {
	text string
	next token
	open int
}

func begin(text string) *reader {
	return &reader{text: text, next: tokenFrom(text, 0)}
}

// node is a new node: nothing else has its kids.
func node(kind int, word string, kids ...*api.Node) *api.Node {
	return &api.Node{Kind: kind, Word: word, Kids: kids}
}

// wrong is that the next token can't stand where it does.
func (r *reader) wrong() *api.Fault { return &api.Fault{At: r.next.at, Err: api.ErrText} }

// take goes past the next token.
func (r *reader) take() token {
	taken := r.next
	r.next = tokenFrom(r.text, taken.end)
	return taken
}

func (r *reader) is(mark string) bool { return r.next.kind == aMark && r.next.text == mark }

// takes goes past a sign or keyword, if it is the next token.
func (r *reader) takes(mark string) bool {
	if !r.is(mark) {
		return false
	}
	r.take()
	return true
}

func (r *reader) need(mark string) {
	if !r.takes(mark) {
		panic(r.wrong())
	}
}

// textOf is the text of the next token, which has to be of that kind.
func (r *reader) textOf(kind int) string {
	if r.next.kind != kind {
		panic(r.wrong())
	}
	return r.take().text
}

// among is the kind, of some, whose sign or keyword is the next token; else NNone.
func (r *reader) among(kinds ...int) int {
	for _, kind := range kinds {
		if r.is(between(kind)) {
			return kind
		}
	}
	return api.NNone
}

// chain puts parts together from the left, as long as what stands between parts of one of the kinds follows.
func (r *reader) chain(part func() *api.Node, kinds ...int) *api.Node {
	whole := part()
	for {
		kind := r.among(kinds...)
		if kind == api.NNone {
			return whole
		}
		r.take()
		whole = node(kind, "", whole, part())
	}
}

// list is one part or more, with commas between.
func (r *reader) list(part func() *api.Node) []*api.Node {
	parts := []*api.Node{part()}
	for r.takes(",") {
		parts = append(parts, part())
	}
	return parts
}

// perhaps is the part behind a sign, or NNone without it.
func (r *reader) perhaps(mark string, part func() *api.Node) *api.Node {
	if r.takes(mark) {
		return part()
	}
	return node(api.NNone, "")
}

// within reads what the next token opens, that token too: so one too many is told ahead of what is wrong behind it.
func (r *reader) within(rule func() *api.Node) *api.Node {
	if r.open == api.MaxNest {
		panic(&api.Fault{At: r.next.at, Err: api.ErrBound})
	}
	r.open++
	inner := rule()
	r.open--
	return inner
}

func (r *reader) whole() *api.Node {
	text := node(api.NText, "")
	for r.next.kind != theEnd {
		text.Kids = append(text.Kids, r.statement())
		r.need(";")
	}
	return text
}

func (r *reader) statement() *api.Node {
	switch {
	case r.takes("set"):
		name := r.textOf(aName)
		r.need("=")
		return node(api.NSet, name, r.set())
	case r.takes("param"):
		return r.param()
	case r.takes("var"):
		return r.variable()
	case r.takes("minimize"):
		return r.goal(api.NMinimize)
	case r.takes("maximize"):
		return r.goal(api.NMaximize)
	case r.takes("subject"):
		return r.row()
	}
	panic(r.wrong())
}

func (r *reader) param() *api.Node {
	name := r.textOf(aName)
	index := r.perhapsIndex()
	if len(index.Kids) > 0 && r.takes(":") {
		return r.data(name, index)
	}
	r.need("=")
	return node(api.NParam, name, index, r.sum())
}

func (r *reader) data(name string, index *api.Node) *api.Node {
	data := node(api.NData, name, index)
	for r.takes("[") {
		entry := node(api.NEntry, "", r.list(r.item)...)
		r.need("]")
		entry.Kids = append(entry.Kids, r.signed())
		data.Kids = append(data.Kids, entry)
	}
	if r.takes("default") {
		data.Kids = append(data.Kids, r.signed())
	}
	return data
}

func (r *reader) variable() *api.Node {
	name := r.textOf(aName)
	index := r.perhapsIndex()
	if r.takes("binary") {
		return node(api.NBinary, name, index, node(api.NNone, ""), node(api.NNone, ""))
	}
	kind := api.NVar
	if r.takes("integer") {
		kind = api.NInteger
	}
	low := r.perhaps(">=", r.sum)
	high := r.perhaps("<=", r.sum)
	return node(kind, name, index, low, high)
}

func (r *reader) goal(kind int) *api.Node {
	name := r.textOf(aName)
	r.need(":")
	return node(kind, name, r.sum())
}

func (r *reader) row() *api.Node {
	name := r.textOf(aName)
	index := r.perhapsIndex()
	r.need(":")
	first := r.sum()
	kind := r.among(api.NAtMost, api.NAtLeast, api.NEqual)
	if kind == api.NNone {
		panic(r.wrong())
	}
	r.take()
	row := node(kind, name, index, first, r.sum())
	if kind != api.NEqual && r.takes(between(kind)) {
		row.Kids = append(row.Kids, r.sum())
	}
	return row
}

func (r *reader) perhapsIndex() *api.Node {
	if r.is("{") {
		return r.index()
	}
	return node(api.NIndex, "")
}

func (r *reader) index() *api.Node {
	if !r.is("{") { // what opens nothing is not one too many
		panic(r.wrong())
	}
	return r.within(func() *api.Node {
		r.take()
		index := node(api.NIndex, "", r.list(r.generator)...)
		index.Kids = append(index.Kids, r.perhaps(":", r.either))
		r.need("}")
		return index
	})
}

func (r *reader) generator() *api.Node {
	name := r.textOf(aName)
	r.need("in")
	return node(api.NGen, name, r.set())
}

func (r *reader) set() *api.Node {
	return r.chain(r.part, api.NUnion, api.NInter, api.NMinus)
}

func (r *reader) part() *api.Node {
	if r.takes("{") {
		return r.items()
	}
	named := r.next.kind == aName // which a name within brackets is not: that is a sum
	low := r.sum()
	if named && low.Kind == api.NName && !r.is("..") {
		return low
	}
	r.need("..")
	return node(api.NRange, "", low, r.sum())
}

func (r *reader) items() *api.Node {
	if r.takes("}") {
		return node(api.NItems, "")
	}
	items := node(api.NItems, "", r.list(r.item)...)
	r.need("}")
	return items
}

func (r *reader) item() *api.Node {
	if r.next.kind == aName {
		return node(api.NItem, r.take().text)
	}
	sign := r.minus()
	if strings.Contains(r.next.text, ".") {
		panic(r.wrong())
	}
	return node(api.NItem, numberText(sign+r.textOf(aNumber)))
}

func (r *reader) signed() *api.Node {
	sign := r.minus()
	return node(api.NNumber, numberText(sign+r.textOf(aNumber)))
}

func (r *reader) minus() string {
	if r.takes("-") {
		return "-"
	}
	return ""
}

// numberText is the Text of a number of the text; its bounds are narrower than those of ratio.Read.
func numberText(digits string) string {
	value, _ := ratio.Read(digits)
	return value.Text()
}

func (r *reader) either() *api.Node { return r.chain(r.both, api.NOr) }

func (r *reader) both() *api.Node { return r.chain(r.unless, api.NAnd) }

func (r *reader) unless() *api.Node {
	if r.is("not") {
		return r.within(func() *api.Node {
			r.take()
			return node(api.NNot, "", r.unless())
		})
	}
	first := r.sum()
	kind := r.among(api.NLess, api.NUpTo, api.NSame, api.NOther, api.NFrom, api.NMore)
	if kind == api.NNone {
		panic(r.wrong())
	}
	r.take()
	return node(kind, "", first, r.sum())
}

func (r *reader) sum() *api.Node { return r.chain(r.product, api.NAdd, api.NSub) }

func (r *reader) product() *api.Node { return r.chain(r.factor, api.NMul, api.NDiv) }

func (r *reader) factor() *api.Node {
	switch {
	case r.next.kind == aNumber:
		return node(api.NNumber, numberText(r.take().text))
	case r.next.kind == aSymbol:
		return node(api.NSymbol, r.take().text)
	case r.next.kind == aName:
		return r.named()
	case r.is("-"):
		return r.within(func() *api.Node {
			r.take()
			return node(api.NNeg, "", r.factor())
		})
	case r.is("("):
		return r.within(func() *api.Node {
			r.take()
			inner := r.sum()
			r.need(")")
			return inner
		})
	case r.is("sum"):
		return r.within(func() *api.Node {
			r.take()
			index := r.index()
			return node(api.NSum, "", index, r.product())
		})
	case r.is("if"):
		return r.within(r.choice)
	}
	panic(r.wrong())
}

func (r *reader) choice() *api.Node {
	r.need("if")
	condition := r.either()
	r.need("then")
	first := r.sum()
	r.need("else")
	return node(api.NIf, "", condition, first, r.sum())
}

func (r *reader) named() *api.Node {
	name := r.take().text
	if !r.is("[") {
		return node(api.NName, name)
	}
	return r.within(func() *api.Node {
		r.take()
		at := node(api.NAt, name, r.list(r.sum)...)
		r.need("]")
		return at
	})
}
