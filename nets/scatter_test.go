package nets

import (
	"math/big"
	"reflect"
	"slices"
	"testing"

	"optima/api"
	"optima/ratio"
	"optima/simplex"
)

// scatter makes nets out of a fixed rule.
type scatter uint64

func (s *scatter) below(n int) int {
	*s ^= *s << 13
	*s ^= *s >> 7
	*s ^= *s << 17
	return int(uint64(*s) % uint64(n))
}

// fraction is a number from low on, mostly whole.
func (s *scatter) fraction(low, wide int) ratio.R {
	r, _ := ratio.Int(int64(low + s.below(wide))).Quo(ratio.Int(int64(max(1, s.below(6)-2))))
	return r
}

// arcs may be side by side, lead to their own node, or take nothing.
func (s *scatter) arcs(nodes, many int) []Arc {
	cheap := s.below(3) * 4 // so much below 0 costs may be
	var out []Arc
	for range many {
		out = append(out, Arc{From: s.below(nodes), To: s.below(nodes), Cap: s.fraction(0, 7), Cost: s.fraction(-cheap, 12)})
	}
	return out
}

// supply is 0 in sum; often it is what a flow sends, so that it can be.
func (s *scatter) supply(nodes int, list []Arc) []ratio.R {
	out := repeat(ratio.R{}, nodes)
	send := func(from, to int, much ratio.R) {
		out[from], out[to] = out[from].Add(much), out[to].Sub(much)
	}
	if s.below(3) == 0 {
		for range 1 + s.below(3) {
			if from, to := s.below(nodes), s.below(nodes); from != to {
				send(from, to, s.fraction(0, 4))
			}
		}
		return out
	}
	for _, arc := range list {
		if part := ratio.Int(int64(s.below(3))); arc.From != arc.To {
			much, _ := arc.Cap.Mul(part).Quo(ratio.Int(2))
			send(arc.From, arc.To, much)
		}
	}
	return out
}

// leastAcross is the least caps between all sides that there are, tried one by one.
func leastAcross(nodes int, list []Arc, s, t int) *big.Rat {
	var least *big.Rat
	for bits := range 1 << nodes {
		side := make([]bool, nodes)
		for at := range side {
			side[at] = bits>>at&1 == 1
		}
		if !side[s] || side[t] {
			continue
		}
		if caps := across(list, side); least == nil || caps.Cmp(least) < 0 {
			least = caps
		}
	}
	return least
}

func TestMostOfMany(t *testing.T) {
	s := scatter(88172645463325252)
	for range 400 {
		nodes := 2 + s.below(5)
		list := s.arcs(nodes, s.below(14))
		from := s.below(nodes)
		to := (from + 1 + s.below(nodes-1)) % nodes
		flow, side, much, err := Most(nodes, list, from, to)
		if err != nil || asRat(much).Cmp(leastAcross(nodes, list, from, to)) != 0 {
			t.Fatalf("%v, %d to %d: %s, %v", list, from, to, much.Text(), err)
		}
		if what := wrongMost(nodes, list, from, to, flow, side, much); what != "" {
			t.Fatalf("%v, %d to %d: %s, %v: %s", list, from, to, texts(flow), side, what)
		}
	}
}

// TestMostOfGreat: what shows itself is right, so no other way need be tried.
func TestMostOfGreat(t *testing.T) {
	s := scatter(362436069)
	for range 60 {
		nodes := api.MaxNodes - s.below(20)
		list := s.arcs(nodes, api.MaxArcs-s.below(30))
		from := s.below(nodes)
		to := (from + 1 + s.below(nodes-1)) % nodes
		flow, side, much, err := Most(nodes, list, from, to)
		if err != nil {
			t.Fatal(err)
		}
		if what := wrongMost(nodes, list, from, to, flow, side, much); what != "" {
			t.Fatal(what)
		}
	}
}

// TestCheapestAsBases: bases find the same cost of the linear problem, or that there is no point.
func TestCheapestAsBases(t *testing.T) {
	s := scatter(521288629)
	none := 0
	for range 500 {
		nodes := 1 + s.below(7)
		list := s.arcs(nodes, s.below(16))
		supply := s.supply(nodes, list)
		if cheapestAsBases(t, nodes, list, supply) {
			none++
		}
	}
	if none < 50 || none > 300 {
		t.Errorf("%d cannot be", none)
	}
	for range 10 {
		list := s.arcs(20, api.MaxCols)
		cheapestAsBases(t, 20, list, s.supply(20, list))
	}
}

// cheapestAsBases is whether it cannot be.
func cheapestAsBases(t *testing.T, nodes int, list []Arc, supply []ratio.R) bool {
	t.Helper()
	p, err := Cheapest(nodes, list, supply)
	if err != nil {
		t.Fatal(err)
	}
	q, err := Linear(nodes, list, supply)
	if err != nil {
		t.Fatal(err)
	}
	claim, _, err := simplex.Solve(q)
	if err != nil || p.None != (claim.Kind == api.None) || !p.None && p.Cost.Cmp(claim.Value) != 0 {
		t.Fatalf("%v, %s: %+v, %+v, %v", list, texts(supply), p, claim, err)
	}
	checkForm(t, nodes, list, p)
	if ok, err := Check(nodes, list, supply, p); !ok || err != nil || !showsPlainly(nodes, list, supply, p) {
		t.Fatalf("%v, %s: %+v: %v, %v", list, texts(supply), p, ok, err)
	}
	return p.None
}

func TestCheapestOfGreat(t *testing.T) {
	s := scatter(123456789)
	none := 0
	for range 40 {
		nodes := api.MaxNodes - s.below(20)
		list := s.arcs(nodes, api.MaxArcs-s.below(30))
		supply := s.supply(nodes, list)
		p, err := Cheapest(nodes, list, supply)
		if err != nil {
			t.Fatal(err)
		}
		if p.None {
			none++
		}
		if ok, err := Check(nodes, list, supply, p); !ok || err != nil || !showsPlainly(nodes, list, supply, p) {
			t.Fatalf("%v, %v", ok, err)
		}
	}
	if none == 0 || none == 40 {
		t.Errorf("%d cannot be", none)
	}
}

// TestSameAgain: what is answered hangs on what is given alone.
func TestSameAgain(t *testing.T) {
	s := scatter(77777)
	for range 50 {
		nodes := 2 + s.below(9)
		list := s.arcs(nodes, s.below(40))
		supply := s.supply(nodes, list)
		p, _ := Cheapest(nodes, list, supply)
		flow, side, much, _ := Most(nodes, list, 0, 1)
		q, _ := Cheapest(nodes, slices.Clone(list), slices.Clone(supply))
		again, other, more, _ := Most(nodes, slices.Clone(list), 0, 1)
		if !reflect.DeepEqual(p, q) || !reflect.DeepEqual(flow, again) || !slices.Equal(side, other) || much.Cmp(more) != 0 {
			t.Fatal("another answer")
		}
	}
}

// TestCheckOfChanged: plans that are changed a little, or not, are told as the words tell them.
func TestCheckOfChanged(t *testing.T) {
	s := scatter(987654321)
	right, wrong := 0, 0
	for range 4000 {
		nodes := 1 + s.below(5)
		list := s.arcs(nodes, s.below(9))
		supply := s.supply(nodes, list)
		p, err := Cheapest(nodes, list, supply)
		if err != nil {
			t.Fatal(err)
		}
		s.change(p, list, supply)
		got, err := Check(nodes, list, supply, p)
		if err != nil || got != showsPlainly(nodes, list, supply, p) {
			t.Fatalf("%v, %s, %+v: %v, %v", list, texts(supply), p, got, err)
		}
		if got {
			right++
		} else {
			wrong++
		}
	}
	if right < 500 || wrong < 500 {
		t.Errorf("%d are right, %d wrong", right, wrong)
	}
}

// change changes one thing, or two that belong together.
func (s *scatter) change(p *Plan, list []Arc, supply []ratio.R) {
	step := s.fraction(-2, 5)
	nudge := func(numbers []ratio.R) {
		if len(numbers) > 0 {
			i := s.below(len(numbers))
			numbers[i] = numbers[i].Add(step)
		}
	}
	switch s.below(9) {
	case 0:
		p.Cost = p.Cost.Add(step)
	case 1:
		nudge(p.Prices)
	case 2: // with the cost that it has then
		nudge(p.Flow)
		p.Cost = bill(list, append(p.Flow, repeat(ratio.R{}, len(list))...))
	case 3:
		nudge(supply)
	case 4:
		for i := range p.Side {
			p.Side[i] = p.Side[i] != (s.below(4) == 0)
		}
	case 5: // what arcs to their own node take is free for supplies
		for i, arc := range list {
			if arc.From == arc.To && len(p.Flow) > 0 {
				p.Flow[i] = p.Flow[i].Add(step)
				p.Cost = p.Cost.Add(step.Mul(arc.Cost))
			}
		}
	case 6:
		for i := range p.Prices { // all by the same
			p.Prices[i] = p.Prices[i].Add(step)
		}
	case 7:
		p.Flow, p.Side = append(p.Flow, ratio.R{}), append(p.Side, true)
	}
}
