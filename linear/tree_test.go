package linear

import (
	"errors"
	"strings"
	"testing"

	"optima/api"
	"optima/tongue"
)

// texts have each kind of node.
func texts() []string {
	return []string{
		"set A = {a, b} union 1 .. 3 inter {a, 2, -3} minus {b}; param n = 2 * 3 / 4; param c{i in A, j in {z} : not i = 'q' or 1 < 2} : [a, z] 3.5 default -1;",
		"set A = {a, b}; param c{i in A} : [a] 3 [b] 5; var x{i in A} >= 0 <= c[i]; var y integer <= 9; var w binary; maximize z: sum{i in A : i <> 'b' and c[i] >= 1} c[i] * x[i] - -y / 2;",
		"var x; var y{i in 1 .. 3} >= i; minimize z: x + (if 1 <= 2 then y[2] else 'a'); subject r{i in 1 .. 3 : i > 1}: i <= x + y[i] <= 9; subject s: x >= y[1]; subject e: 4 >= x >= 2; subject u: x = y[3];",
	}
}

func TestShape(t *testing.T) {
	for _, n := range []*api.Node{
		nil,
		{},
		{Kind: api.NSet, Word: "A", Kids: []*api.Node{{Kind: api.NItems}}},
		{Kind: api.NText, Word: "x"},
		{Kind: api.NText, Kids: []*api.Node{nil}},
		{Kind: api.NText, Kids: []*api.Node{{Kind: api.NVar, Word: "x"}}},
		{Kind: api.NText, Kids: []*api.Node{{Kind: api.NSet, Word: "in", Kids: []*api.Node{{Kind: api.NItems}}}}},
		{Kind: api.NText, Kids: []*api.Node{{Kind: api.NMinimize, Word: "z", Kids: []*api.Node{{Kind: api.NNumber, Word: "1/3"}}}}}, // no decimal
		{Kind: api.NText, Kids: []*api.Node{{Kind: api.NMinimize, Word: "z", Kids: []*api.Node{{Kind: api.NNumber, Word: "x"}}}}},
		{Kind: 1 << 40},
		{Kind: -1},
	} {
		p, err := Expand(n)
		var fault *api.Fault
		if p != nil || !errors.Is(err, api.ErrShape) || errors.As(err, &fault) {
			t.Errorf("%v: %v, %v", n, p, err)
		}
	}
	// What has no sense ahead of what has no text is no sooner told.
	n := tree(t, "param p = 1 / 0;")
	n.Kids = append(n.Kids, nil)
	if _, err := Expand(n); !errors.Is(err, api.ErrShape) {
		t.Errorf("no text: %v", err)
	}
}

// bends calls a function with each tree that one node, bent, makes of a tree.
func bends(n *api.Node, told func()) {
	kind, word, kids := n.Kind, n.Word, n.Kids
	for other := range api.NNeg + 2 {
		n.Kind = other
		told()
	}
	n.Kind = kind
	for _, other := range []string{"", "a", "x", "A", "z", "1", "-1", "1/2", "0", "in"} {
		n.Word = other
		told()
	}
	n.Word = word
	for i := range kids {
		n.Kids = append(kids[:i:i], kids[i+1:]...)
		told()
		n.Kids = append(kids[:i+1:i+1], kids[i:]...)
		told()
		n.Kids = append(append(kids[:i:i], nil), kids[i+1:]...)
		told()
		n.Kids = append(append(kids[:i:i], kids[len(kids)-1-i]), kids[i+1:]...)
		told()
	}
	n.Kids = kids
	for _, kid := range kids {
		bends(kid, told)
	}
}

// TestBentTrees: whatever tree it is, the error is Write's or sense, and a problem is valid (P1).
func TestBentTrees(t *testing.T) {
	kept := 0
	for _, text := range texts() {
		n := tree(t, text)
		bends(n, func() {
			_, refused := tongue.Write(n)
			p, err := Expand(n)
			var fault *api.Fault
			switch {
			case refused != nil:
				if p != nil || !errors.Is(err, api.ErrShape) {
					t.Errorf("what Write refuses: %v, %v", p, err)
				}
			case err == nil:
				kept++
				if wrong := Valid(p); wrong != nil {
					t.Errorf("a problem that is not valid: %v", wrong)
				}
			case p != nil || !errors.Is(err, api.ErrSense) || !errors.As(err, &fault) || fault.At < 0 || fault.At >= len(n.Kids):
				t.Errorf("%v, %v", p, err)
			}
		})
	}
	if kept < 50 {
		t.Errorf("only %d bent trees have sense", kept)
	}
}

// TestSameAgain: nothing but the tree counts, and nothing of it is written into (P2, P4).
func TestSameAgain(t *testing.T) {
	wide := "var x{i in 1 .. 100}; maximize z: sum{i in 1 .. 100} (if i < 50 then i else -i) * x[i]; subject r: sum{i in 1 .. 100} x[101 - i] / i <= 1;"
	for _, text := range append(texts(), wide) {
		n := tree(t, text)
		before, _ := tongue.Write(n)
		p, err := Expand(n)
		if err != nil {
			t.Fatalf("%s: %v", text, err)
		}
		want := shown(p)
		for range 20 {
			q, err := Expand(n)
			if err != nil || shown(q) != want {
				t.Fatalf("%s: once\n%s, and once\n%s", text, want, shown(q))
			}
			for i := range q.Cols {
				q.Cols[i] = Col{}
			}
			for i := range q.Rows {
				clear(q.Rows[i].Terms)
			}
		}
		if after, _ := tongue.Write(n); after != before {
			t.Errorf("%s: the tree has changed to %s", before, after)
		}
		spoil(n)
		if shown(p) != want {
			t.Errorf("%s: what is written into the tree shows", text)
		}
	}
}

func spoil(n *api.Node) {
	for _, kid := range n.Kids {
		spoil(kid)
	}
	*n = api.Node{}
}

// TestSharedNodes: a node may stand in a tree at several places.
func TestSharedNodes(t *testing.T) {
	x := &api.Node{Kind: api.NName, Word: "x"}
	twice := &api.Node{Kind: api.NAdd, Kids: []*api.Node{x, x}}
	four := &api.Node{Kind: api.NAdd, Kids: []*api.Node{twice, twice}}
	none := &api.Node{Kind: api.NNone}
	n := &api.Node{Kind: api.NText, Kids: []*api.Node{
		{Kind: api.NVar, Word: "x", Kids: []*api.Node{{Kind: api.NIndex}, none, none}},
		{Kind: api.NMinimize, Word: "z", Kids: []*api.Node{four}},
	}}
	if p, err := Expand(n); err != nil || shown(p) != "least 0; x (-, -) 4" {
		t.Errorf("%v, %v", p, err)
	}
}

// TestLongChains: depth is no hindrance.
func TestLongChains(t *testing.T) {
	const count = 4000
	check(t, []said{
		{"var x; minimize z: x" + strings.Repeat("+x", count) + ";", "least 0; x (-, -) 4001"},
		{"var x{i in {}" + strings.Repeat(" union{}", count/4) + "};", "least 0"},
		{"minimize z: if 1=2" + strings.Repeat(" or 1=2", count/4) + " then 1 else 2;", "least 2"},
	})
}
