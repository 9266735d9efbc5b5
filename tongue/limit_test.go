package tongue

import (
	"runtime/debug"
	"strings"
	"testing"

	"optima/api"
)

func paramOf(n *api.Node) *api.Node {
	return node(api.NText, "", node(api.NParam, "p", node(api.NIndex, ""), n))
}

func nameOf() *api.Node { return node(api.NName, "x") }

// piled is a node in a node in a node, so often.
func piled(n *api.Node, often int, around func(*api.Node) *api.Node) *api.Node {
	for range often {
		n = around(n)
	}
	return n
}

func negative(n *api.Node) *api.Node { return node(api.NNeg, "", n) }

// TestWriteNest: a tree that has a text within MaxNest is written, and no other.
func TestWriteNest(t *testing.T) {
	right := func(n *api.Node) *api.Node { return node(api.NSub, "", nameOf(), n) }
	both := func(n *api.Node) *api.Node { return node(api.NDiv, "", right(n), nameOf()) }
	at := func(n *api.Node) *api.Node { return node(api.NAt, "x", n) }
	for _, c := range []struct {
		around func(*api.Node) *api.Node
		most   int
	}{
		{negative, api.MaxNest},
		{at, api.MaxNest},
		{right, api.MaxNest + 1}, // the outermost one has no brackets
		{both, api.MaxNest},
	} {
		expectWritten(t, paramOf(piled(nameOf(), c.most, c.around)))
		expectNone(t, paramOf(piled(nameOf(), c.most+1, c.around)))
	}
}

// TestBracketsInside: these have a text only with brackets as far inside as they can be, or with none.
func TestBracketsInside(t *testing.T) {
	deep := strings.Repeat("-", api.MaxNest)
	for _, expression := range []string{
		deep + "x + (if 1 < 2 then 3 else 4) + 5",
		deep + "x * (sum{i in A} x) / 2",
		deep + "x - x * (if 1 < 2 then 3 else 4) - 5",
		deep + "x * -(sum{i in A} x) * 5",
		deep[2:] + "sum{i in A} x + x",
		deep[2:] + "(if 1 < 2 then 3 else 4) + 5",
		deep[3:] + "-(if 1 < 2 then 3 else 4) * 5",
		"(((((" + strings.Repeat("((-(", 8) + "x" + strings.Repeat(")))", 8) + ")))))",
		strings.Repeat("(", api.MaxNest) + "x" + strings.Repeat(")", api.MaxNest),
		strings.Repeat("(", api.MaxNest) + "x" + strings.Repeat(" + 1)", api.MaxNest),
		strings.Repeat("-(", api.MaxNest/2) + "x" + strings.Repeat(" + 1)", api.MaxNest/2),
		strings.Repeat("sum{i in A}(", api.MaxNest/2) + "x" + strings.Repeat(" + 1)", api.MaxNest/2),
	} {
		n := mustRead(t, "param p = "+expression+";")
		expectWritten(t, n)
	}
}

// TestWriteLength: a text of just MaxText bytes is found, and a longer one is none.
func TestWriteLength(t *testing.T) {
	add := func(n *api.Node) *api.Node { return node(api.NAdd, "", n, nameOf()) }
	most := (api.MaxText - len("param p=x;")) / len("+x")
	text := expectWritten(t, paramOf(piled(nameOf(), most, add)))
	if len(text) != api.MaxText {
		t.Errorf("%d bytes", len(text))
	}
	expectNone(t, paramOf(piled(nameOf(), most+1, add)))
	wide := expectWritten(t, paramOf(piled(nameOf(), 3, add)))
	if wide != "param p = x + x + x + x;\n" {
		t.Errorf("%q", wide)
	}
	for _, repeated := range []string{
		"set A={};", "set A=B union{a,-1}inter 1..2;", "param p{i in A}:[a]3default-2;", "var x{i in A:1<2or 1>2}integer>=0<=4;", "var x binary;", "subject r:1<=x<=2;", "minimize f:if not x<>'a'then 1else 2;", "maximize f:sum{i in A,j in B}x[i,j]*2;",
	} {
		full := strings.Repeat(repeated, api.MaxText/len(repeated))
		if got := expectWritten(t, mustRead(t, full)); len(got) > api.MaxText {
			t.Errorf("%q: %d bytes", repeated, len(got))
		}
	}
}

// TestGreatTrees: trees that are far too great, or hang together so that they seem to be, have no text, and that is told soon.
func TestGreatTrees(t *testing.T) {
	defer debug.SetMaxStack(debug.SetMaxStack(100 << 20)) // one call a node would need more
	less := func() *api.Node { return node(api.NLess, "", nameOf(), nameOf()) }
	chosen := func(n *api.Node) *api.Node { return node(api.NIf, "", n, nameOf(), nameOf()) }
	set := func(n *api.Node) *api.Node { return node(api.NText, "", node(api.NSet, "A", n)) }
	twice := func(kind int) func(*api.Node) *api.Node {
		return func(n *api.Node) *api.Node { return node(kind, "", n, n) }
	}
	first := func(kind int, second *api.Node) func(*api.Node) *api.Node {
		return func(n *api.Node) *api.Node { return node(kind, "", n, second) }
	}
	second := func(kind int, first *api.Node) func(*api.Node) *api.Node {
		return func(n *api.Node) *api.Node { return node(kind, "", first, n) }
	}
	const great = 1000000
	for _, n := range []*api.Node{
		paramOf(piled(nameOf(), 100, twice(api.NAdd))),
		paramOf(piled(nameOf(), 100, twice(api.NMul))),
		paramOf(chosen(piled(less(), 100, twice(api.NAnd)))),
		paramOf(chosen(piled(less(), 100, twice(api.NOr)))),
		set(piled(nameOf(), 100, twice(api.NUnion))),
		piled(node(api.NText, ""), 100, twice(api.NText)),
		paramOf(piled(nameOf(), 100, func(n *api.Node) *api.Node { return node(api.NAt, "x", n, n, n) })),
		paramOf(piled(nameOf(), great, first(api.NAdd, nameOf()))),
		paramOf(piled(nameOf(), great, second(api.NAdd, nameOf()))),
		paramOf(piled(nameOf(), great, first(api.NDiv, nameOf()))),
		paramOf(piled(nameOf(), great, negative)),
		paramOf(chosen(piled(less(), great, first(api.NOr, less())))),
		paramOf(chosen(piled(less(), great, first(api.NAnd, less())))),
		paramOf(chosen(piled(less(), great, func(n *api.Node) *api.Node { return node(api.NNot, "", n) }))),
		set(piled(nameOf(), great, first(api.NMinus, nameOf()))),
		set(piled(nameOf(), great, first(api.NRange, nameOf()))),
		set(&api.Node{Kind: api.NItems, Kids: many(great, node(api.NItem, "a"))}),
		{Kind: api.NText, Kids: many(great, node(api.NSet, "A", nameOf()))},
		{Kind: api.NText, Kids: many(great, node(api.NNone, ""))},
		paramOf(&api.Node{Kind: api.NAt, Word: "x", Kids: many(great, node(api.NNumber, "1/3"))}),
		paramOf(&api.Node{Kind: api.NAt, Word: "x", Kids: many(great, node(api.NNumber, strings.Repeat("7", 359)+"8/"+strings.Repeat("7", 360)))}),
		paramOf(node(api.NSum, "", &api.Node{Kind: api.NIndex, Kids: many(great, node(api.NNone, ""))}, nameOf())),
	} {
		if text, err := Write(n); text != "" || err != api.ErrShape {
			t.Errorf("%.80q, %v", text, err)
		}
	}
}

func many(n int, one *api.Node) []*api.Node {
	out := make([]*api.Node, n)
	for i := range out {
		out[i] = one
	}
	return out
}

// TestSharedNodes: a node that stands at several places of a tree is as good as several.
func TestSharedNodes(t *testing.T) {
	x, none := nameOf(), node(api.NIndex, "")
	expectWritten(t, node(api.NText, "", node(api.NParam, "p", none, node(api.NAdd, "", x, x)), node(api.NParam, "q", none, x)))
}

// TestTornTexts: each piece of a text is read, or told wrong at a place within it, never anything else.
func TestTornTexts(t *testing.T) {
	text := "set A = {a, -2} union 1..3; # a\nparam c{i in A : not i = 'a' or 1 < 2.5} : [a] 3 default -1;\nvar x{i in A} integer >= 0 <= (4);\nmaximize z: sum{i in A} c[i] * -x[i] + if 1 = 1 then 2 else 3;\nsubject r: 0 <= x[1] <= 6;"
	mustRead(t, text)
	check := func(torn string) {
		n, err := Read(torn)
		if at := placeOf(err); (n == nil) != (err != nil) || err != nil && (at < 0 || at > len(torn)) {
			t.Errorf("%q: %s, %v at %d", torn, shown(n), err, at)
		}
	}
	for i := range len(text) {
		check(text[:i])
		check(text[i:])
		for _, b := range []byte{0, ' ', '\n', '#', '\'', '.', '(', ')', '{', '}', '[', ']', ';', '-', 'x', '1', 0xff} {
			check(text[:i] + string([]byte{b}) + text[i:])
			check(text[:i] + string([]byte{b}) + text[i+1:])
		}
	}
	for _, b := range []string{"(", "-", "not ", "sum", "sum{", "if ", "{", "[", "x[", "'", ".", "..", "1", "w", "#", ";", "set A = {", "param p{"} {
		check(strings.Repeat(b, api.MaxText/len(b)))
		check("param p = " + strings.Repeat(b, 5000/len(b)))
		check("param p = if " + strings.Repeat(b, 5000/len(b)))
	}
}
