package tongue

import (
	"strings"

	"optima/api"
)

// Which rule an expression has to be of, where it stands.
const (
	asSum = iota
	asProduct
	asFactor
)

// What follows an expression that would be read into it, if it can go on.
const (
	nothing = iota
	plus    // or `-`
	times   // or `/`
)

// writer is the text as far as it is written.
type writer struct {
	strings.Builder
	tight bool // blanks stand only where words would run together
	word  bool // the last thing that stands there is a word
	depth int
}

// noText is that no text has the tree.
func noText() *api.Fault { return &api.Fault{Err: api.ErrShape} }

// kid is one of a node's kids, or nil.
func kid(n *api.Node, i int) *api.Node {
	if i < len(n.Kids) {
		return n.Kids[i]
	}
	return nil
}

// later are a node's kids from the second one on.
func later(n *api.Node) []*api.Node { return n.Kids[min(1, len(n.Kids)):] }

// put writes a token.
func (w *writer) put(piece string) {
	if piece == "" || w.Len()+len(piece) > api.MaxText {
		panic(noText())
	}
	letter := isLetter(piece[0])
	if w.word && (letter || isDigit(piece[0])) {
		w.WriteByte(' ')
	}
	w.WriteString(piece)
	w.word = letter
}

// gap writes what nothing needs, a blank or the end of a line.
func (w *writer) gap(b byte) {
	if !w.tight {
		w.WriteByte(b)
		w.word = false
	}
}

// apart writes a token with gaps around it.
func (w *writer) apart(piece string) {
	w.gap(' ')
	w.put(piece)
	w.gap(' ')
}

// within writes a node, if there is one. Each but the outermost has a byte of its own at least: one that lies deeper than a text is long is in none.
func (w *writer) within(n *api.Node, rule func()) {
	if n == nil || w.depth > api.MaxText {
		panic(noText())
	}
	w.depth++
	rule()
	w.depth--
}

// list writes parts with commas between.
func (w *writer) list(parts []*api.Node, rule func(*api.Node)) {
	for i, part := range parts {
		if i > 0 {
			w.put(",")
			w.gap(' ')
		}
		rule(part)
	}
}

// pair writes both parts of a node, and what stands between them.
func (w *writer) pair(n *api.Node, rule func(*api.Node)) {
	rule(kid(n, 0))
	w.apart(between(n.Kind))
	rule(kid(n, 1))
}

func (w *writer) whole(n *api.Node) {
	w.within(n, func() {
		for _, statement := range n.Kids {
			w.statement(statement)
			w.put(";")
			w.gap('\n')
		}
	})
}

func (w *writer) statement(n *api.Node) {
	w.within(n, func() {
		switch n.Kind {
		case api.NSet:
			w.put("set")
			w.put(n.Word)
			w.apart("=")
			w.set(kid(n, 0))
		case api.NParam:
			w.head("param", n)
			w.apart("=")
			w.sum(kid(n, 1))
		case api.NData:
			w.head("param", n)
			w.data(n)
		case api.NVar, api.NInteger, api.NBinary:
			w.head("var", n)
			w.bounds(n)
		case api.NMinimize:
			w.goal("minimize", n)
		case api.NMaximize:
			w.goal("maximize", n)
		case api.NAtMost, api.NAtLeast, api.NEqual:
			w.head("subject", n)
			w.row(n)
		default:
			panic(noText())
		}
	})
}

// head writes how a statement that may have an index begins.
func (w *writer) head(keyword string, n *api.Node) {
	w.put(keyword)
	w.put(n.Word)
	w.index(kid(n, 0))
}

func (w *writer) data(n *api.Node) {
	w.gap(' ')
	w.put(":")
	for _, part := range later(n) {
		w.within(part, func() {
			w.gap(' ')
			if part.Kind == api.NEntry {
				w.entry(part)
				return
			}
			w.put("default")
			w.gap(' ')
			w.number(part)
		})
	}
}

func (w *writer) entry(n *api.Node) {
	last := len(n.Kids) - 1
	w.put("[")
	w.list(n.Kids[:max(last, 0)], w.item)
	w.put("]")
	w.gap(' ')
	w.number(kid(n, max(last, 0)))
}

func (w *writer) bounds(n *api.Node) {
	switch n.Kind {
	case api.NInteger:
		w.gap(' ')
		w.put("integer")
	case api.NBinary:
		w.gap(' ')
		w.put("binary")
	}
	w.bound(">=", kid(n, 1))
	w.bound("<=", kid(n, 2))
}

func (w *writer) bound(sign string, n *api.Node) {
	w.within(n, func() {
		if n.Kind != api.NNone {
			w.apart(sign)
			w.sum(n)
		}
	})
}

func (w *writer) goal(keyword string, n *api.Node) {
	w.put(keyword)
	w.put(n.Word)
	w.put(":")
	w.gap(' ')
	w.sum(kid(n, 0))
}

func (w *writer) row(n *api.Node) {
	w.put(":")
	w.gap(' ')
	for i, sum := range later(n) {
		if i > 0 {
			w.apart(between(n.Kind))
		}
		w.sum(sum)
	}
}

func (w *writer) index(n *api.Node) {
	w.within(n, func() {
		last := len(n.Kids) - 1
		if last < 0 {
			return
		}
		w.put("{")
		w.list(n.Kids[:last], w.generator)
		w.within(n.Kids[last], func() {
			if n.Kids[last].Kind != api.NNone {
				w.apart(":")
				w.condition(n.Kids[last])
			}
		})
		w.put("}")
	})
}

func (w *writer) generator(n *api.Node) {
	w.within(n, func() {
		w.put(n.Word)
		w.apart("in")
		w.set(kid(n, 0))
	})
}

func (w *writer) set(n *api.Node) {
	w.within(n, func() {
		switch n.Kind {
		case api.NUnion, api.NInter, api.NMinus:
			w.pair(n, w.set)
		case api.NRange:
			w.pair(n, w.sum)
		case api.NItems:
			w.put("{")
			w.list(n.Kids, w.item)
			w.put("}")
		case api.NName:
			w.put(n.Word)
		default:
			panic(noText())
		}
	})
}

func (w *writer) item(n *api.Node) {
	w.within(n, func() { w.put(n.Word) })
}

func (w *writer) number(n *api.Node) {
	w.within(n, func() { w.put(decimal(n.Word)) })
}

func (w *writer) condition(n *api.Node) {
	w.within(n, func() {
		switch n.Kind {
		case api.NOr, api.NAnd:
			w.pair(n, w.condition)
		case api.NNot:
			w.put("not")
			w.gap(' ')
			w.condition(kid(n, 0))
		case api.NLess, api.NUpTo, api.NSame, api.NOther, api.NFrom, api.NMore:
			w.pair(n, w.sum)
		default:
			panic(noText())
		}
	})
}

// sum writes an expression where any may stand, and nothing goes on with it.
func (w *writer) sum(n *api.Node) { w.expression(n, asSum, nothing) }

// expression writes an expression, with brackets where it would be read as another one. They stand as far inside as they can: so the fewest things are open.
func (w *writer) expression(n *api.Node, rule, behind int) {
	w.within(n, func() {
		if !needsBrackets(n.Kind, rule, behind) {
			w.bare(n, behind)
			return
		}
		w.put("(")
		w.bare(n, nothing)
		w.put(")")
	})
}

func needsBrackets(kind, rule, behind int) bool {
	switch kind {
	case api.NAdd, api.NSub:
		return rule > asSum
	case api.NMul, api.NDiv:
		return rule > asProduct
	case api.NSum: // its product would go on
		return behind == times
	case api.NIf: // its last sum would go on
		return behind != nothing
	}
	return false
}

func (w *writer) bare(n *api.Node, behind int) {
	switch n.Kind {
	case api.NNumber:
		w.put(decimal(n.Word))
	case api.NSymbol:
		w.put("'" + n.Word + "'")
	case api.NName:
		w.put(n.Word)
	case api.NAt:
		w.put(n.Word)
		w.put("[")
		w.list(n.Kids, w.sum)
		w.put("]")
	case api.NSum:
		w.put("sum")
		w.index(kid(n, 0))
		w.gap(' ')
		w.expression(kid(n, 1), asProduct, behind)
	case api.NIf:
		w.choice(n)
	case api.NAdd, api.NSub:
		w.expression(kid(n, 0), asSum, plus)
		w.apart(between(n.Kind))
		w.expression(kid(n, 1), asProduct, behind)
	case api.NMul, api.NDiv:
		w.expression(kid(n, 0), asProduct, times)
		w.apart(between(n.Kind))
		w.expression(kid(n, 1), asFactor, behind)
	case api.NNeg:
		w.put("-")
		w.expression(kid(n, 0), asFactor, behind)
	default:
		panic(noText())
	}
}

func (w *writer) choice(n *api.Node) {
	w.put("if")
	w.gap(' ')
	w.condition(kid(n, 0))
	w.apart("then")
	w.sum(kid(n, 1))
	w.apart("else")
	w.sum(kid(n, 2))
}

// decimal is a number's Text as the grammar has numbers: with a point, not with `/`. Of what needs more than MaxPlaces it is another number.
func decimal(text string) string {
	if !strings.Contains(text, "/") {
		return text
	}
	value, ok := Number(text)
	if !ok {
		panic(noText())
	}
	return strings.TrimRight(value.Decimal(api.MaxPlaces), "0")
}
