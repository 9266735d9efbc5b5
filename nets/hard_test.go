package nets

import (
	"strings"
	"testing"

	"optima/api"
	"optima/ratio"
	"optima/whole"
)

// twoTo is 2 to the k.
func twoTo(k int) ratio.R {
	out := ratio.Int(1)
	for range k {
		out = out.Add(out)
	}
	return out
}

// TestMostWithNarrowMiddle: who goes over the narrow arc forth and back takes as many steps as the caps are great.
func TestMostWithNarrowMiddle(t *testing.T) {
	list := arcs(t, "0 1 1e60 0, 0 2 1e60 0, 1 2 1 0, 1 3 1e60 0, 2 3 1e60 0")
	flow, side, much, err := Most(4, list, 0, 3)
	if err != nil || much.Text() != "2"+strings.Repeat("0", 60) || wrongMost(4, list, 0, 3, flow, side, much) != "" {
		t.Errorf("%s, %v", much.Text(), err)
	}
}

// TestMostOfLayers: each layer has twice the caps of the one ahead.
func TestMostOfLayers(t *testing.T) {
	var list []Arc
	for i := range api.MaxNodes - 1 {
		for k := range 5 {
			if to := i + 1 + k; to < api.MaxNodes {
				list = append(list, Arc{From: i, To: to, Cap: twoTo((i*7 + k*13) % 60)}, Arc{From: to, To: i, Cap: twoTo((i*11 + k) % 60)})
			}
		}
	}
	list = list[:api.MaxArcs]
	flow, side, much, err := Most(api.MaxNodes, list, 0, 31)
	if err != nil || much.Sign() <= 0 || wrongMost(api.MaxNodes, list, 0, 31, flow, side, much) != "" {
		t.Errorf("%s, %v", much.Text(), err)
	}
}

// doubling is a net where each level doubles the number of costs that the cheapest way runs through, while more and more is sent: from 0 on by 1 for each unit. It answers the nodes, the arcs, and the ends.
func doubling(levels int) (int, []Arc, int, int) {
	list := []Arc{{From: 0, To: 1, Cap: ratio.Int(1)}}
	half, _ := ratio.Int(1).Quo(ratio.Int(2))
	for k := range levels {
		s, t, outerS, outerT := 2*k, 2*k+1, 2*k+2, 2*k+3
		wide, cost := twoTo(k), twoTo(k).Sub(half)
		list = append(list,
			Arc{From: outerS, To: s, Cap: wide}, Arc{From: t, To: outerT, Cap: wide},
			Arc{From: outerS, To: t, Cap: wide, Cost: cost}, Arc{From: s, To: outerT, Cap: wide, Cost: cost})
	}
	return 2*levels + 2, list, 2 * levels, 2*levels + 1
}

// TestCheapestOfDoubling: one way after the other, the cheapest first, would be 2^29 of them.
func TestCheapestOfDoubling(t *testing.T) {
	for _, levels := range []int{1, 2, 3, 5, 29} {
		nodes, list, from, to := doubling(levels)
		most := twoTo(levels)
		for _, much := range []ratio.R{ratio.Int(0), ratio.Int(1), ratio.Int(2), most.Sub(ratio.Int(1)), most, most.Add(ratio.Int(1))} {
			supply := repeat(ratio.R{}, nodes)
			supply[from], supply[to] = much, much.Neg()
			p, err := Cheapest(nodes, list, supply)
			if err != nil || p.None != (much.Cmp(most) > 0) {
				t.Fatalf("%d levels, %s: %v, %v", levels, much.Text(), p.None, err)
			}
			want, _ := much.Mul(much.Sub(ratio.Int(1))).Quo(ratio.Int(2))
			if !p.None && p.Cost.Cmp(want) != 0 {
				t.Errorf("%d levels, %s: %s, want %s", levels, much.Text(), p.Cost.Text(), want.Text())
			}
			if ok, err := Check(nodes, list, supply, p); !ok || err != nil {
				t.Errorf("%d levels, %s: %v, %v", levels, much.Text(), ok, err)
			}
		}
	}
}

// long is a number of so many digits.
func (s *scatter) long(digits int) whole.Z {
	text := []byte{byte('1' + s.below(9))}
	for len(text) < digits {
		text = append(text, byte('0'+s.below(10)))
	}
	z, _ := whole.Read(string(text))
	return z
}

// longArcs have fractions of long numbers; half of the costs are below 0.
func (s *scatter) longArcs(nodes, many, digits int) []Arc {
	var out []Arc
	for range many {
		size, _ := ratio.Of(s.long(digits), s.long(digits))
		cost, _ := ratio.Of(s.long(digits), s.long(digits))
		if s.below(2) == 0 {
			cost = cost.Neg()
		}
		out = append(out, Arc{From: s.below(nodes), To: s.below(nodes), Cap: size, Cost: cost})
	}
	return out
}

func TestLongNumbers(t *testing.T) {
	s := scatter(2463534242)
	for _, c := range [][3]int{{api.MaxNodes, api.MaxArcs, 6}, {api.MaxNodes, api.MaxArcs, 20}, {8, 30, api.MaxDigits}, {20, 80, 60}} {
		nodes := c[0]
		list := s.longArcs(nodes, c[1], c[2])
		for _, supply := range [][]ratio.R{repeat(ratio.R{}, nodes), s.supply(nodes, list)} {
			p, err := Cheapest(nodes, list, supply)
			if err != nil {
				t.Fatal(err)
			}
			if ok, err := Check(nodes, list, supply, p); !ok || err != nil || !showsPlainly(nodes, list, supply, p) {
				t.Errorf("%v: %v, %v", c, ok, err)
			}
		}
		flow, side, much, err := Most(nodes, list, 0, 1)
		if err != nil || wrongMost(nodes, list, 0, 1, flow, side, much) != "" {
			t.Errorf("%v: %v", c, err)
		}
	}
}

// TestCostsOfAllSizes: costs that differ by far more than they are rounded to.
func TestCostsOfAllSizes(t *testing.T) {
	s := scatter(1234567)
	for range 3 {
		list := s.arcs(api.MaxNodes, api.MaxArcs)
		for i := range list {
			list[i].Cap, list[i].Cost = twoTo(s.below(200)), twoTo(s.below(300))
			if s.below(2) == 0 {
				list[i].Cost = list[i].Cost.Neg()
			}
		}
		supply := s.supply(api.MaxNodes, list)
		p, err := Cheapest(api.MaxNodes, list, supply)
		if err != nil {
			t.Fatal(err)
		}
		if ok, err := Check(api.MaxNodes, list, supply, p); !ok || err != nil || !showsPlainly(api.MaxNodes, list, supply, p) {
			t.Errorf("%v, %v", ok, err)
		}
	}
}
