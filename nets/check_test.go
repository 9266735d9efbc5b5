package nets

import (
	"testing"

	"optima/api"
	"optima/ratio"
)

// plan: a flow, what it costs, prices.
func plan(t *testing.T, flow, cost, prices string) *Plan {
	t.Helper()
	return &Plan{Flow: numbers(t, flow), Cost: number(t, cost), Prices: numbers(t, prices)}
}

// sides are told by one letter each.
func sides(text string) *Plan {
	return &Plan{None: true, Side: each([]byte(text), func(b byte) bool { return b == 't' })}
}

func TestCheckBest(t *testing.T) {
	const (
		ring = "0 1 2 -3, 1 0 5 1, 1 1 1 -1"
		two  = "0 1 1 1, 0 1 1 3"
		self = "0 0 2 -1, 0 0 2 1, 0 0 2 0"
	)
	for _, c := range []struct {
		nodes                            int
		arcs, supply, flow, cost, prices string
		want                             bool
	}{
		{4, pipes, "4 0 0 -4", "3 1 5/2 1/2 7/2", "31/2", "0 1 2 6", false}, // not the cheapest
		{4, pipes, "4 0 0 -4", "5/2 3/2 3/2 1 3", "16", "0 1 4 6", false},   // nor this
		{4, pipes, "4 0 0 -4", "3 1 5/2 1/2 7/2", "15", "0 3 4 8", false},   // another cost

		{2, two, "1 -1", "1 0", "1", "0 1", true},
		{2, two, "1 -1", "1 0", "1", "0 2", true},
		{2, two, "1 -1", "1 0", "1", "0 3", true},
		{2, two, "1 -1", "1 0", "1", "-5/2 0", true}, // only differences count
		{2, two, "1 -1", "1 0", "1", "100 102", true},
		{2, two, "1 -1", "1 0", "1", "0 0.99", false}, // the first one takes something, but costs
		{2, two, "1 -1", "1 0", "1", "0 3.01", false}, // the second one could take more, and pays
		{2, two, "1 -1", "0 1", "3", "0 1", false},
		{2, two, "1 -1", "0 1", "3", "0 3", false},
		{2, two, "1 -1", "1/2 1/2", "2", "0 2", false},
		{2, two, "3/2 -3/2", "1 1/2", "5/2", "0 3", true},
		{2, two, "3/2 -3/2", "1 1/2", "5/2", "0 2", false},
		{2, two, "3/2 -3/2", "1 1/2", "5/2", "0 4", false},
		{2, two, "2 -2", "1 1", "4", "0 3", true},
		{2, two, "2 -2", "1 1", "4", "0 1000", true},
		{2, two, "0 0", "0 0", "0", "0 0", true},
		{2, two, "0 0", "0 0", "0", "0 1", true},
		{2, two, "0 0", "0 0", "0", "0 -9", true},
		{2, two, "0 0", "0 0", "0", "0 1.01", false},
		{2, two, "0 0", "0 0", "1e-60", "0 0", false}, // Cost
		{2, two, "1 -1", "1 0", "-1", "0 2", false},

		// caps
		{2, two, "2 -2", "2 0", "2", "0 2", false},
		{2, two, "0 0", "1 -1", "-2", "0 2", false},
		{2, two, "0 0", "-1e-60 1e-60", "2e-60", "0 2", false},

		// supplies
		{2, two, "1 -1", "0 0", "0", "0 0", false},
		{2, two, "-1 1", "1 0", "1", "0 2", false},
		{2, two, "1 -2", "1 0", "1", "0 2", false},
		{2, two, "2 -1", "1 0", "1", "0 2", false},

		// lengths
		{2, two, "1 -1", "1", "1", "0 2", false},
		{2, two, "1 -1", "1 0 0", "1", "0 2", false},
		{2, two, "1 -1", "", "0", "0 2", false},
		{2, two, "1 -1", "1 0", "1", "0", false},
		{2, two, "1 -1", "1 0", "1", "0 2 0", false},
		{2, two, "1 -1", "1 0", "1", "", false},
		{1, "", "0", "", "0", "7", true},
		{1, "", "0", "", "0", "", false},
		{1, "", "0", "", "1", "7", false},
		{1, "", "1", "", "0", "7", false},
		{1, "", "0", "0", "0", "7", false},

		{2, ring, "0 0", "2 2 1", "-5", "1 0", true},
		{2, ring, "0 0", "2 2 1", "-5", "0 -1", true},
		{2, ring, "0 0", "2 2 1", "-5", "0 -2", false},
		{2, ring, "0 0", "2 2 0", "-4", "1 0", false}, // an arc to its own node has its cost alone
		{2, ring, "0 0", "0 0 1", "-1", "1 0", false},

		{1, self, "0", "2 0 0", "-2", "5", true},
		{1, self, "0", "2 0 1", "-2", "5", true},
		{1, self, "0", "2 0 2", "-2", "5", true},
		{1, self, "0", "2 0 3", "-2", "5", false},
		{1, self, "0", "1 0 0", "-1", "5", false},
		{1, self, "0", "2 1 0", "-1", "5", false},
		{1, self, "0", "2 2 0", "0", "5", false},
		{1, self, "2", "2 0 0", "-2", "5", false},

		// an arc of nothing may cost what it likes
		{2, "0 1 0 5", "0 0", "0", "0", "0 99", true},
		{2, "0 1 0 -5", "0 0", "0", "0", "0 -99", true},
	} {
		list, supply, p := arcs(t, c.arcs), numbers(t, c.supply), plan(t, c.flow, c.cost, c.prices)
		if got, err := Check(c.nodes, list, supply, p); got != c.want || err != nil {
			t.Errorf("%s; %s; %s, %s, %s: %v, %v", c.arcs, c.supply, c.flow, c.cost, c.prices, got, err)
		}
		p.Side = []bool{true} // of such a plan it does not matter
		if got, err := Check(c.nodes, list, supply, p); got != c.want || err != nil {
			t.Errorf("%s; %s: with a side: %v, %v", c.arcs, c.supply, got, err)
		}
		if showsPlainly(c.nodes, list, supply, p) != c.want {
			t.Errorf("%s; %s; %s: plainly", c.arcs, c.supply, c.flow)
		}
	}
}

func TestCheckNone(t *testing.T) {
	for _, c := range []struct {
		nodes              int
		arcs, supply, side string
		want               bool
	}{
		{4, pipes, "6 0 0 -6", "tfff", true},
		{4, pipes, "6 0 0 -6", "tttf", true},
		{4, pipes, "6 0 0 -6", "ttff", true},
		{4, pipes, "5.5 0 0 -5.5", "ttff", false},
		{4, pipes, "6 0 0 -6", "ffff", false},
		{4, pipes, "6 0 0 -6", "tttt", false}, // 0 is not above 0
		{4, pipes, "6 0 0 -6", "ffft", false},
		{4, pipes, "5 0 0 -5", "tfff", false}, // just as much
		{4, pipes, "5.01 0 0 -5.01", "tfff", true},
		{4, pipes, "4 0 0 -4", "tfff", false},

		// arcs the other way, and those within a side, do not count
		{2, "1 0 9 1", "1 -1", "tf", true},
		{2, "0 0 9 1, 1 1 9 1", "1 -1", "tf", true},
		{2, "0 1 1/2 1, 0 1 1/2 1", "1 -1", "tf", false},
		{2, "0 1 1/2 1, 0 1 1/3 1", "1 -1", "tf", true},
		{2, "", "-1 1", "tf", false},
		{2, "", "-1 1", "ft", true},
		{3, "0 1 9 0", "2 -1 -1", "ttf", true},
		{3, "0 1 9 0", "2 -1 -1", "tff", false},

		// lengths
		{4, pipes, "6 0 0 -6", "tff", false},
		{4, pipes, "6 0 0 -6", "tffff", false},
		{4, pipes, "6 0 0 -6", "", false},

		// what is sent but not got
		{2, "", "1 0", "tt", true},
		{2, "", "1 0", "tf", true},
		{2, "", "1 0", "ff", false},
		{2, "", "-1 0", "tt", false},
	} {
		list, supply, p := arcs(t, c.arcs), numbers(t, c.supply), sides(c.side)
		if got, err := Check(c.nodes, list, supply, p); got != c.want || err != nil {
			t.Errorf("%s; %s; %s: %v, %v", c.arcs, c.supply, c.side, got, err)
		}
		p.Flow, p.Prices, p.Cost = numbers(t, "1"), numbers(t, "1 2"), number(t, "3") // of None they do not matter
		if got, err := Check(c.nodes, list, supply, p); got != c.want || err != nil {
			t.Errorf("%s; %s; %s: with more: %v, %v", c.arcs, c.supply, c.side, got, err)
		}
		if showsPlainly(c.nodes, list, supply, p) != c.want {
			t.Errorf("%s; %s; %s: plainly", c.arcs, c.supply, c.side)
		}
	}
}

func TestCheckErrors(t *testing.T) {
	list := arcs(t, pipes)
	for _, c := range []struct {
		supply string
		p      *Plan
		want   error
	}{
		{"4 0 0 -4", nil, api.ErrShape},
		{"4 0 0", nil, api.ErrShape},
		{"", nil, api.ErrShape},
		{"4 0 -4", &Plan{}, api.ErrShape},
		{"4 0 0 -4 0", &Plan{}, api.ErrShape},
		{"", &Plan{}, api.ErrShape},
		{"4 0 -4", sides("ttt"), api.ErrShape},
		{"4 0 0 -4 0", sides("ttttf"), api.ErrShape},
		{"4 0 0 -4", &Plan{}, nil},
		{"4 0 0 -4", &Plan{None: true}, nil},
		{"1 1 1 1", &Plan{}, nil}, // whatever they are together
		{"1 1 1 1", plan(t, "0 0 0 0 0", "0", "0 0 0 0"), nil},
	} {
		if ok, err := Check(4, list, numbers(t, c.supply), c.p); ok || err != c.want {
			t.Errorf("%s, %+v: %v, %v, want %v", c.supply, c.p, ok, err, c.want)
		}
	}
	if ok, err := Check(1, nil, []ratio.R{{}}, &Plan{Prices: []ratio.R{{}}}); !ok || err != nil {
		t.Errorf("%v, %v", ok, err)
	}
}
