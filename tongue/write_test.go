package tongue

import (
	"strings"
	"testing"

	"optima/api"
)

// grown is a scattered tree of the grammar, and a text of it with brackets around all that may have them.
type grown struct {
	node *api.Node
	text string
}

func (s *scatter) expression(left int) grown {
	if left <= 0 {
		return s.leaf()
	}
	switch s.below(8) {
	case 0:
		return s.leaf()
	case 1:
		x := s.expression(left - 1)
		return grown{node(api.NNeg, "", x.node), "-(" + x.text + ")"}
	case 2:
		index, x := s.index(left-1), s.expression(left-1)
		return grown{node(api.NSum, "", index.node, x.node), "sum" + index.text + "(" + x.text + ")"}
	case 3:
		c, x, y := s.either(left-1), s.expression(left-1), s.expression(left-1)
		return grown{node(api.NIf, "", c.node, x.node, y.node), "if " + c.text + " then (" + x.text + ") else (" + y.text + ")"}
	case 4:
		x, y := s.expression(left-1), s.expression(left-1)
		return grown{node(api.NAt, "a", x.node, y.node), "a[" + x.text + "," + y.text + "]"}
	}
	kind := []int{api.NAdd, api.NSub, api.NMul, api.NDiv}[s.below(4)]
	x, y := s.expression(left-1), s.expression(left-1)
	return grown{node(kind, "", x.node, y.node), "(" + x.text + ")" + between(kind) + "(" + y.text + ")"}
}

func (s *scatter) leaf() grown {
	switch s.below(4) {
	case 0:
		return grown{node(api.NNumber, "7"), "007.0"}
	case 1:
		return grown{node(api.NNumber, "5/4"), "1.25"}
	case 2:
		return grown{node(api.NSymbol, "set"), "'set'"}
	}
	return grown{node(api.NName, "x"), "x"}
}

func (s *scatter) chained(part func(int) grown, left int, kinds ...int) grown {
	out := part(left)
	for range s.below(3) {
		kind := kinds[s.below(len(kinds))]
		next := part(left)
		out = grown{node(kind, "", out.node, next.node), out.text + " " + between(kind) + " " + next.text}
	}
	return out
}

func (s *scatter) either(left int) grown { return s.chained(s.both, left, api.NOr) }

func (s *scatter) both(left int) grown { return s.chained(s.unless, left, api.NAnd) }

func (s *scatter) unless(left int) grown {
	if s.below(4) == 0 {
		c := s.unless(left)
		return grown{node(api.NNot, "", c.node), "not " + c.text}
	}
	kind := api.NLess + s.below(6)
	x, y := s.expression(left-1), s.expression(left-1)
	return grown{node(kind, "", x.node, y.node), "(" + x.text + ")" + between(kind) + "(" + y.text + ")"}
}

func (s *scatter) set(left int) grown {
	return s.chained(s.part, left, api.NUnion, api.NInter, api.NMinus)
}

func (s *scatter) part(left int) grown {
	switch s.below(4) {
	case 0:
		return grown{node(api.NItems, ""), "{ }"}
	case 1:
		return grown{node(api.NItems, "", node(api.NItem, "a"), node(api.NItem, "-3")), "{a,- 03}"}
	case 2:
		return grown{node(api.NName, "A"), "A"}
	}
	x, y := s.expression(left-1), s.expression(left-1)
	return grown{node(api.NRange, "", x.node, y.node), "(" + x.text + ")..(" + y.text + ")"}
}

func (s *scatter) index(left int) grown {
	out := grown{node(api.NIndex, ""), "{"}
	for i := range 1 + s.below(2) {
		set := s.set(left)
		out.node.Kids = append(out.node.Kids, node(api.NGen, "i", set.node))
		out.text += []string{"", ","}[i] + "i in " + set.text
	}
	if s.below(2) == 0 {
		out.node.Kids = append(out.node.Kids, node(api.NNone, ""))
		out.text += "}"
		return out
	}
	c := s.either(left)
	out.node.Kids = append(out.node.Kids, c.node)
	out.text += ":" + c.text + "}"
	return out
}

func (s *scatter) perhapsIndex(left int) grown {
	if s.below(2) == 0 {
		return grown{node(api.NIndex, ""), ""}
	}
	return s.index(left)
}

func (s *scatter) statement(left int) grown {
	switch s.below(6) {
	case 0:
		x := s.set(left)
		return grown{node(api.NSet, "A", x.node), "set A=" + x.text}
	case 1:
		index, x := s.perhapsIndex(left), s.expression(left)
		return grown{node(api.NParam, "p", index.node, x.node), "param p" + index.text + "=" + x.text}
	case 2:
		return s.data(left)
	case 3:
		return s.variable(left)
	case 4:
		x := s.expression(left)
		if s.below(2) == 0 {
			return grown{node(api.NMinimize, "f", x.node), "minimize f:" + x.text}
		}
		return grown{node(api.NMaximize, "f", x.node), "maximize f:" + x.text}
	}
	kind := api.NAtMost + s.below(3)
	index, x, y := s.perhapsIndex(left), s.expression(left), s.expression(left)
	out := grown{node(kind, "r", index.node, x.node, y.node), "subject r" + index.text + ":" + x.text + between(kind) + y.text}
	if kind != api.NEqual && s.below(2) == 0 {
		z := s.expression(left)
		out.node.Kids = append(out.node.Kids, z.node)
		out.text += between(kind) + z.text
	}
	return out
}

func (s *scatter) data(left int) grown {
	index := s.index(left)
	out := grown{node(api.NData, "p", index.node), "param p" + index.text + ":"}
	for range s.below(3) {
		out.node.Kids = append(out.node.Kids, node(api.NEntry, "", node(api.NItem, "b"), node(api.NItem, "-1"), node(api.NNumber, "-5/2")))
		out.text += "[b,-1]-2.50"
	}
	if s.below(2) == 0 {
		out.node.Kids = append(out.node.Kids, node(api.NNumber, "3"))
		out.text += "default 3"
	}
	return out
}

func (s *scatter) variable(left int) grown {
	index := s.perhapsIndex(left)
	low, high := node(api.NNone, ""), node(api.NNone, "")
	text := "var x" + index.text
	kind := api.NVar + s.below(3)
	if kind == api.NBinary {
		return grown{node(kind, "x", index.node, low, high), text + " binary"}
	}
	if kind == api.NInteger {
		text += " integer"
	}
	if s.below(2) == 0 {
		x := s.expression(left)
		low, text = x.node, text+">="+x.text
	}
	if s.below(2) == 0 {
		x := s.expression(left)
		high, text = x.node, text+"<="+x.text
	}
	return grown{node(kind, "x", index.node, low, high), text}
}

func (s *scatter) whole() grown {
	out := grown{node(api.NText, ""), ""}
	for range s.below(4) {
		x := s.statement(1 + s.below(3))
		out.node.Kids = append(out.node.Kids, x.node)
		out.text += x.text + ";\n"
	}
	return out
}

// expectWritten holds that a tree has a text, and that it is that tree's.
func expectWritten(t *testing.T, n *api.Node) string {
	t.Helper()
	before := shown(n)
	text, err := Write(n)
	if err != nil {
		t.Fatalf("%.300s: %v", before, err)
	}
	back, err := Read(text)
	if err != nil || shown(back) != before {
		t.Fatalf("%.300s, written %.300q: %.300s, %v", before, text, shown(back), err)
	}
	if shown(n) != before {
		t.Fatalf("%.300s is now %.300s", before, shown(n))
	}
	return text
}

func expectNone(t *testing.T, n *api.Node) {
	t.Helper()
	if text, err := Write(n); text != "" || err != api.ErrShape {
		t.Errorf("%.200s: %.200q, %v", shown(n), text, err)
	}
}

func TestReadAndWriteScattered(t *testing.T) {
	s := scatter(43)
	for range 4000 {
		g := s.whole()
		if len(g.text) > api.MaxText/2 {
			continue
		}
		n, err := Read(g.text)
		if err != nil || shown(n) != shown(g.node) {
			t.Fatalf("%.300q: %v at %d\n got %.300s\nwant %.300s", g.text, err, placeOf(err), shown(n), shown(g.node))
		}
		expectWritten(t, g.node)
	}
}

// TestFewestBytes goes through all short texts of an expression: each one's tree is written, without blanks, in as few bytes as the shortest that has it.
func TestFewestBytes(t *testing.T) {
	pieces := []string{"x", "-", "*", "+", "(", ")", "sum{i in A}", "if 1<2then 3else "}
	least := map[string]int{}
	trees := map[string]*api.Node{}
	var walk func(text string, left int)
	walk = func(text string, left int) {
		if n, err := Read("param p=" + text + ";"); err == nil {
			key := shown(n)
			if size, ok := least[key]; !ok || len(text) < size {
				least[key], trees[key] = len(text), n
			}
		} else if placeOf(err) < len("param p="+text) {
			return
		}
		if left > 0 {
			for _, piece := range pieces {
				walk(text+piece, left-1)
			}
		}
	}
	walk("", 7)
	if len(least) < 500 {
		t.Errorf("%d trees: too few", len(least))
	}
	for key, size := range least {
		expectWritten(t, trees[key])
		w := &writer{tight: true}
		w.whole(trees[key])
		if got := len(w.String()) - len("param p=;"); got > size {
			t.Errorf("%q: %d bytes, %d are enough", w.String(), got, size)
		}
	}
}

func TestWriteNumbers(t *testing.T) {
	full, zeros := strings.Repeat("9", api.MaxDigits), strings.Repeat("0", api.MaxPlaces)
	number := func(word string) *api.Node { return node(api.NNumber, word) }
	index := func() *api.Node {
		return node(api.NIndex, "", node(api.NGen, "i", node(api.NName, "A")), node(api.NNone, ""))
	}
	plain := func(word string) *api.Node {
		return node(api.NText, "", node(api.NParam, "p", node(api.NIndex, ""), number(word)))
	}
	ahead := func(word string) *api.Node {
		return node(api.NText, "", node(api.NData, "p", index(), node(api.NEntry, "", node(api.NItem, "a"), number(word)), number(word)))
	}
	item := func(word string) *api.Node {
		return node(api.NText, "", node(api.NSet, "A", node(api.NItems, "", node(api.NItem, word))))
	}
	for _, word := range []string{"0", "1", "12", "3/2", "1/10", "1/1152921504606846976", "1/1" + zeros, full, full + strings.Repeat("9", api.MaxPlaces) + "/1" + zeros, "-1", "-3/2", "-" + full + strings.Repeat("9", api.MaxPlaces) + "/1" + zeros} {
		expectWritten(t, ahead(word))
		if word[0] == '-' {
			expectNone(t, plain(word))
		} else {
			expectWritten(t, plain(word))
		}
		if strings.Contains(word, "/") {
			expectNone(t, item(word))
		} else {
			expectWritten(t, item(word))
		}
	}
	for _, word := range []string{"", "-", "-0", "+1", "01", "1.5", "1/3", "6/4", "4/2", "1/1", "0/1", "3/-2", "3/02", "03/2", "--1/2", "-/2", "1/", "/2", "/", "1/0", "1/2/2", "1/2 ", " 1", "1e1", "1e1/2", "1/2305843009213693952", "1/1" + zeros + "0", "9" + full, "9" + full + "/2", full + "8" + zeros + "7/1" + zeros, "1/" + strings.Repeat("2", 5000), strings.Repeat("3", 5000) + "/2", "1;", "1#"} {
		expectNone(t, ahead(word))
		expectNone(t, plain(word))
		expectNone(t, item(word))
	}
	expectNone(t, plain("x"))
	expectWritten(t, item("x"))
}
