package tongue

import (
	"math/big"
	"regexp"
	"strings"
	"testing"

	"optima/api"
)

// legal tells, rule by rule of P41, whether a tree is one of a text (how long that is, and what is open in it, aside).
func legal(n *api.Node) bool {
	return has(n, api.NText, "") && all(n.Kids, legalStatement)
}

func has(n *api.Node, kind int, word string) bool {
	return n != nil && n.Kind == kind && n.Word == word
}

func all(l []*api.Node, holds func(*api.Node) bool) bool {
	for _, n := range l {
		if !holds(n) {
			return false
		}
	}
	return true
}

// each is whether a node has just as many kids as there are rules, and each is of its rule.
func each(n *api.Node, rules ...func(*api.Node) bool) bool {
	if len(n.Kids) != len(rules) {
		return false
	}
	for i, rule := range rules {
		if !rule(n.Kids[i]) {
			return false
		}
	}
	return true
}

var legalWord = regexp.MustCompile(`^[a-zA-Z_][a-zA-Z_0-9]{0,59}$`)

func legalName(word string) bool { return legalWord.MatchString(word) && !isKeyword(word) }

// legalNumber is whether a word is the Text of a decimal within the bounds.
func legalNumber(word string, places int) bool {
	if !regexp.MustCompile(`^-?[0-9]+(/[0-9]+)?$`).MatchString(word) {
		return false
	}
	r, ok := new(big.Rat).SetString(word)
	if !ok || r.RatString() != word {
		return false
	}
	ahead, _, _ := strings.Cut(new(big.Rat).Abs(r).FloatString(places+1), ".")
	if len(ahead) > api.MaxDigits {
		return false
	}
	scale := new(big.Int).Exp(big.NewInt(10), big.NewInt(int64(places)), nil)
	return new(big.Rat).Mul(r, new(big.Rat).SetInt(scale)).IsInt()
}

func legalStatement(n *api.Node) bool {
	if n == nil || !legalName(n.Word) {
		return false
	}
	switch n.Kind {
	case api.NSet:
		return each(n, legalSet)
	case api.NParam:
		return each(n, legalIndex, legalSum)
	case api.NData:
		return legalData(n)
	case api.NVar, api.NInteger:
		return each(n, legalIndex, orNone(legalSum), orNone(legalSum))
	case api.NBinary:
		return each(n, legalIndex, legalNone, legalNone)
	case api.NMinimize, api.NMaximize:
		return each(n, legalSum)
	case api.NAtMost, api.NAtLeast:
		return each(n, legalIndex, legalSum, legalSum) || each(n, legalIndex, legalSum, legalSum, legalSum)
	case api.NEqual:
		return each(n, legalIndex, legalSum, legalSum)
	}
	return false
}

func legalData(n *api.Node) bool {
	if len(n.Kids) == 0 || !legalIndex(n.Kids[0]) || len(n.Kids[0].Kids) == 0 {
		return false
	}
	entries := n.Kids[1:]
	if last := len(entries) - 1; last >= 0 && legalSigned(entries[last]) {
		entries = entries[:last]
	}
	return all(entries, func(e *api.Node) bool {
		return has(e, api.NEntry, "") && len(e.Kids) > 1 && all(e.Kids[:len(e.Kids)-1], legalItem) && legalSigned(e.Kids[len(e.Kids)-1])
	})
}

func legalNone(n *api.Node) bool { return has(n, api.NNone, "") && len(n.Kids) == 0 }

func orNone(rule func(*api.Node) bool) func(*api.Node) bool {
	return func(n *api.Node) bool { return legalNone(n) || rule(n) }
}

func legalItem(n *api.Node) bool {
	return n != nil && n.Kind == api.NItem && len(n.Kids) == 0 && (legalName(n.Word) || legalNumber(n.Word, 0))
}

func legalSigned(n *api.Node) bool {
	return n != nil && n.Kind == api.NNumber && len(n.Kids) == 0 && legalNumber(n.Word, api.MaxPlaces)
}

func legalIndex(n *api.Node) bool {
	if !has(n, api.NIndex, "") || len(n.Kids) == 1 {
		return false
	}
	if len(n.Kids) == 0 {
		return true
	}
	last := len(n.Kids) - 1
	return orNone(legalEither)(n.Kids[last]) && all(n.Kids[:last], func(g *api.Node) bool {
		return g != nil && g.Kind == api.NGen && legalName(g.Word) && each(g, legalSet)
	})
}

func legalSet(n *api.Node) bool {
	if n != nil && n.Word == "" && (n.Kind == api.NUnion || n.Kind == api.NInter || n.Kind == api.NMinus) {
		return each(n, legalSet, legalPart)
	}
	return legalPart(n)
}

func legalPart(n *api.Node) bool {
	return has(n, api.NItems, "") && all(n.Kids, legalItem) || has(n, api.NRange, "") && each(n, legalSum, legalSum) || legalNameNode(n)
}

func legalNameNode(n *api.Node) bool {
	return n != nil && n.Kind == api.NName && legalName(n.Word) && len(n.Kids) == 0
}

func legalEither(n *api.Node) bool {
	return has(n, api.NOr, "") && each(n, legalEither, legalBoth) || legalBoth(n)
}

func legalBoth(n *api.Node) bool {
	return has(n, api.NAnd, "") && each(n, legalBoth, legalUnless) || legalUnless(n)
}

func legalUnless(n *api.Node) bool {
	if n == nil || n.Word != "" {
		return false
	}
	return n.Kind == api.NNot && each(n, legalUnless) || n.Kind >= api.NLess && n.Kind <= api.NMore && each(n, legalSum, legalSum)
}

func legalSum(n *api.Node) bool {
	if n == nil {
		return false
	}
	switch n.Kind {
	case api.NNumber:
		return legalSigned(n) && n.Word[0] != '-'
	case api.NSymbol:
		return legalWord.MatchString(n.Word) && len(n.Kids) == 0
	case api.NName:
		return legalNameNode(n)
	case api.NAt:
		return legalName(n.Word) && len(n.Kids) > 0 && all(n.Kids, legalSum)
	case api.NSum:
		return n.Word == "" && each(n, legalIndex, legalSum) && len(n.Kids[0].Kids) > 0
	case api.NIf:
		return n.Word == "" && each(n, legalEither, legalSum, legalSum)
	case api.NAdd, api.NSub, api.NMul, api.NDiv:
		return n.Word == "" && each(n, legalSum, legalSum)
	case api.NNeg:
		return n.Word == "" && each(n, legalSum)
	}
	return false
}

// nodesOf are all nodes of a tree.
func nodesOf(n *api.Node) []*api.Node {
	out := []*api.Node{n}
	for _, kid := range n.Kids {
		out = append(out, nodesOf(kid)...)
	}
	return out
}

// bend changes one node of a tree.
func (s *scatter) bend(root *api.Node) {
	nodes := nodesOf(root)
	n := nodes[s.below(len(nodes))]
	switch s.below(7) {
	case 0:
		n.Kind = s.below(api.NNeg+4) - 1
	case 1:
		n.Word = []string{"", "y", "set", "1", "-1", "3/2", "-7/4", "1/3", "2/4", "a b", "a;", "a[1]", "'", "\u00e9", "1.5", strings.Repeat("w", 60), strings.Repeat("w", 61)}[s.below(17)]
	}
	if len(n.Kids) == 0 {
		return
	}
	i := s.below(len(n.Kids))
	switch s.below(6) {
	case 0:
		n.Kids = append(n.Kids[:i:i], n.Kids[i+1:]...)
	case 1:
		n.Kids = append(n.Kids[:i:i], append([]*api.Node{twin(n.Kids[i])}, n.Kids[i:]...)...)
	case 2:
		n.Kids[i] = twin(nodes[s.below(len(nodes))])
	case 3:
		j := s.below(len(n.Kids))
		n.Kids[i], n.Kids[j] = n.Kids[j], n.Kids[i]
	}
}

func twin(n *api.Node) *api.Node {
	out := node(n.Kind, n.Word)
	for _, kid := range n.Kids {
		out.Kids = append(out.Kids, twin(kid))
	}
	return out
}

// TestBentTrees: a tree has a text if, and only if, each node has what its place asks for.
func TestBentTrees(t *testing.T) {
	s := scatter(44)
	good, bad := 0, 0
	for range 8000 {
		n := s.whole().node
		for range 1 + s.below(2) {
			s.bend(n)
		}
		if len(shown(n)) > api.MaxText/4 {
			continue
		}
		if legal(n) {
			good++
			expectWritten(t, n)
		} else {
			bad++
			expectNone(t, n)
		}
	}
	if good < 1000 || bad < 1000 {
		t.Errorf("%d trees with a text, %d without: too few", good, bad)
	}
}

// TestNilKids puts nil at each place of a tree.
func TestNilKids(t *testing.T) {
	expectNone(t, nil)
	n := mustRead(t, `set A = {a, 1} union 1 .. 2; param p{i in A : not i = 1 and 1 < 2 or i > 3} : [a] 1 [1] -1 default 2; param q = if 1 < 2 then 3 else 4;
		var x{i in A} integer >= 0 <= 1; var z binary; minimize f: sum{i in A} x[i, 'a'] * -2 + 1; subject r: 1 <= z <= 2; subject s: z = 1;`)
	expectWritten(t, n)
	for _, at := range nodesOf(n) {
		for i, kid := range at.Kids {
			at.Kids[i] = nil
			expectNone(t, n)
			at.Kids[i] = kid
		}
		kids := at.Kids
		for i := range kids {
			at.Kids = kids[:i]
			Write(n) // ends, and does not panic
		}
		at.Kids = append(kids[:len(kids):len(kids)], nil)
		expectNone(t, n)
		at.Kids = kids
	}
	expectWritten(t, n)
}

func TestNoText(t *testing.T) {
	x := func() *api.Node { return node(api.NName, "x") }
	param := func(n *api.Node) *api.Node {
		return node(api.NText, "", node(api.NParam, "p", node(api.NIndex, ""), n))
	}
	less := func() *api.Node { return node(api.NLess, "", x(), x()) }
	choice := func(c *api.Node) *api.Node { return param(node(api.NIf, "", c, x(), x())) }
	set := func(n *api.Node) *api.Node { return node(api.NText, "", node(api.NSet, "A", n)) }
	expectWritten(t, param(x()))
	expectWritten(t, choice(less()))
	expectWritten(t, choice(node(api.NOr, "", node(api.NOr, "", less(), less()), node(api.NAnd, "", less(), node(api.NNot, "", less())))))
	expectWritten(t, set(node(api.NUnion, "", node(api.NMinus, "", x(), x()), x())))
	for _, n := range []*api.Node{
		x(), node(api.NText, "x"), node(-1, ""), node(1000, ""), node(api.NText, "", node(api.NText, "")),
		choice(node(api.NOr, "", less(), node(api.NOr, "", less(), less()))),
		choice(node(api.NAnd, "", less(), node(api.NAnd, "", less(), less()))),
		choice(node(api.NAnd, "", node(api.NOr, "", less(), less()), less())),
		choice(node(api.NNot, "", node(api.NAnd, "", less(), less()))),
		choice(node(api.NLess, "", less(), x())),
		choice(x()),
		param(less()),
		param(node(api.NItem, "x")),
		param(node(api.NSum, "", node(api.NIndex, ""), x())),
		param(node(api.NAt, "x")),
		param(node(api.NName, "sum")),
		param(node(api.NName, "x; param q = x")),
		param(node(api.NName, "x#")),
		param(node(api.NName, " x")),
		param(node(api.NName, "x+x")),
		param(node(api.NSymbol, "a' + 'b")),
		param(node(api.NSymbol, "")),
		param(node(api.NSymbol, strings.Repeat("w", api.MaxWord+1))),
		param(node(api.NName, strings.Repeat("w", 2*api.MaxText))),
		set(node(api.NUnion, "", x(), node(api.NMinus, "", x(), x()))),
		set(node(api.NAdd, "", x(), x())),
		set(node(api.NRange, "", set(x()), x())),
	} {
		expectNone(t, n)
	}
}
