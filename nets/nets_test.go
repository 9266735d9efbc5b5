package nets

import (
	"errors"
	"math"
	"reflect"
	"slices"
	"strconv"
	"strings"
	"testing"

	"optima/api"
	"optima/linear"
	"optima/ratio"
)

func number(t *testing.T, text string) ratio.R {
	t.Helper()
	r, err := ratio.Read(text)
	if err != nil {
		t.Fatalf("%q: %v", text, err)
	}
	return r
}

// numbers are those of a text with blanks between.
func numbers(t *testing.T, text string) []ratio.R {
	t.Helper()
	var out []ratio.R
	for _, word := range strings.Fields(text) {
		out = append(out, number(t, word))
	}
	return out
}

// arcs are told by from, to, cap and cost, with commas between arcs.
func arcs(t *testing.T, text string) []Arc {
	t.Helper()
	var out []Arc
	for _, part := range strings.Split(text, ",") {
		words := strings.Fields(part)
		if len(words) == 0 {
			continue
		}
		from, wrongFrom := strconv.Atoi(words[0])
		to, wrongTo := strconv.Atoi(words[1])
		if wrongFrom != nil || wrongTo != nil {
			t.Fatal(part)
		}
		out = append(out, Arc{From: from, To: to, Cap: number(t, words[2]), Cost: number(t, words[3])})
	}
	return out
}

func texts(list []ratio.R) string {
	return strings.Join(each(list, ratio.R.Text), " ")
}

// pipes has 4 nodes.
const pipes = "0 1 3 1, 0 2 2 4, 1 2 5/2 1, 1 3 1 5, 2 3 4 1"

func TestValid(t *testing.T) {
	many := func(n int) []Arc { return repeat(Arc{}, n) }
	for _, c := range []struct {
		nodes int
		arcs  []Arc
		want  error
	}{
		{1, nil, nil},
		{1, []Arc{}, nil},
		{api.MaxNodes, nil, nil},
		{1, many(api.MaxArcs), nil},
		{4, arcs(t, pipes), nil},
		{2, arcs(t, "0 1 0 -5, 1 1 1e60 1e60, 1 0 1/3 -1/3, 0 0 0 0"), nil},
		{2, arcs(t, "0 1 1 1, 0 1 1 1"), nil},

		{0, nil, api.ErrBound},
		{-1, nil, api.ErrBound},
		{math.MinInt, nil, api.ErrBound},
		{api.MaxNodes + 1, nil, api.ErrBound},
		{math.MaxInt, nil, api.ErrBound},
		{1, many(api.MaxArcs + 1), api.ErrBound},

		{4, arcs(t, "0 4 1 1"), api.ErrShape},
		{4, arcs(t, "4 0 1 1"), api.ErrShape},
		{4, arcs(t, "0 -1 1 1"), api.ErrShape},
		{4, arcs(t, "-1 0 1 1"), api.ErrShape},
		{4, arcs(t, "0 1 1 1, 1 2 1 1, 2 9 1 1"), api.ErrShape},
		{4, []Arc{{From: math.MinInt}}, api.ErrShape},
		{4, []Arc{{To: math.MaxInt}}, api.ErrShape},
		{4, arcs(t, "0 1 -1 1"), api.ErrShape},
		{4, arcs(t, "0 1 1 1, 1 1 -1e-60 1"), api.ErrShape},

		// both: the bounds come first
		{0, arcs(t, "0 1 1 1"), api.ErrBound},
		{api.MaxNodes + 1, arcs(t, "0 -1 -1 1"), api.ErrBound},
		{1, append(many(api.MaxArcs), Arc{From: 7}), api.ErrBound},
	} {
		if err := Valid(c.nodes, c.arcs); err != c.want {
			t.Errorf("%d nodes, %d arcs: %v, want %v", c.nodes, len(c.arcs), err, c.want)
		}
	}
}

// TestValidFirst: all calls tell what is wrong with the net ahead of all else.
func TestValidFirst(t *testing.T) {
	for _, c := range []struct {
		nodes int
		arcs  []Arc
		want  error
	}{
		{0, nil, api.ErrBound},
		{api.MaxNodes + 1, nil, api.ErrBound},
		{2, repeat(Arc{To: 1}, api.MaxArcs+1), api.ErrBound},
		{2, arcs(t, "0 2 1 1"), api.ErrShape},
		{2, arcs(t, "0 1 -1 1"), api.ErrShape},
		{2, append(repeat(Arc{To: 1}, api.MaxCols), Arc{From: 2}), api.ErrShape}, // more arcs than columns too
	} {
		for _, supply := range [][]ratio.R{nil, repeat(ratio.Int(1), 2), repeat(ratio.Int(0), 2), repeat(ratio.Int(0), max(c.nodes, 0))} {
			for _, p := range []*Plan{nil, {}, {None: true, Side: []bool{true, true}}} {
				if ok, err := Check(c.nodes, c.arcs, supply, p); err != c.want || ok {
					t.Errorf("Check: %v, %v, want %v", ok, err, c.want)
				}
			}
			if p, err := Cheapest(c.nodes, c.arcs, supply); err != c.want || p != nil {
				t.Errorf("Cheapest: %v, %v, want %v", p, err, c.want)
			}
			if p, err := Linear(c.nodes, c.arcs, supply); err != c.want || p != nil {
				t.Errorf("Linear: %v, %v, want %v", p, err, c.want)
			}
		}
		for _, ends := range [][2]int{{0, 1}, {0, 0}, {-1, 99}} {
			flow, side, much, err := Most(c.nodes, c.arcs, ends[0], ends[1])
			if err != c.want || flow != nil || side != nil || !reflect.DeepEqual(much, ratio.R{}) {
				t.Errorf("Most: %v, %v, %s, %v, want %v", flow, side, much.Text(), err, c.want)
			}
		}
	}
}

func TestMost(t *testing.T) {
	for _, c := range []struct {
		nodes int
		arcs  string
		s, t  int
		much  string
	}{
		{4, pipes, 0, 3, "5"},
		{4, pipes, 3, 0, "0"},
		{4, pipes, 0, 2, "9/2"},
		{4, pipes, 1, 3, "7/2"},
		{2, "", 0, 1, "0"},
		{2, "", 1, 0, "0"},
		{2, "0 1 7/3 9", 0, 1, "7/3"},
		{2, "0 1 7/3 9", 1, 0, "0"},
		{2, "0 1 0 9", 0, 1, "0"},
		{2, "0 1 1/2 0, 0 1 1/3 0, 0 1 1/7 0", 0, 1, "41/42"},         // side by side
		{2, "0 1 3 0, 1 0 5 0", 0, 1, "3"},                            // what comes back does not count
		{2, "0 1 3 0, 0 0 5 0, 1 1 7 0", 0, 1, "3"},                   // nor what goes to itself
		{3, "0 1 3 0, 1 1 1 0, 1 2 2 0, 2 0 9 0", 0, 2, "2"},          // arcs into s, out of t
		{3, "0 1 3 -7, 1 2 2 -7", 0, 2, "2"},                          // costs do not count
		{4, "0 1 1 0, 0 2 1 0, 1 2 1 0, 1 3 1 0, 2 3 1 0", 0, 3, "2"}, // a way that has to be taken back
		{5, "0 1 4 0, 1 2 4 0, 3 4 9 0", 0, 4, "0"},                   // no way at all
		{3, "0 1 1e60 0, 1 2 1e-60 0", 0, 2, "1/1000000000000000000000000000000000000000000000000000000000000"},
	} {
		list := arcs(t, c.arcs)
		flow, side, much, err := Most(c.nodes, list, c.s, c.t)
		if err != nil || much.Text() != c.much {
			t.Errorf("%s: %s, %v, want %s", c.arcs, much.Text(), err, c.much)
			continue
		}
		if what := wrongMost(c.nodes, list, c.s, c.t, flow, side, much); what != "" {
			t.Errorf("%s: %s, %v: %s", c.arcs, texts(flow), side, what)
		}
	}
}

func TestMostErrors(t *testing.T) {
	list := arcs(t, pipes)
	for _, c := range [][2]int{{0, 0}, {3, 3}, {-1, 3}, {0, 4}, {4, 0}, {0, -1}, {math.MinInt, math.MaxInt}, {math.MaxInt, 1}, {4, 4}, {-1, -1}} {
		flow, side, much, err := Most(4, list, c[0], c[1])
		if err != api.ErrShape || flow != nil || side != nil || !reflect.DeepEqual(much, ratio.R{}) {
			t.Errorf("%v: %v, %v, %s, %v", c, flow, side, much.Text(), err)
		}
	}
	if _, _, _, err := Most(1, nil, 0, 0); err != api.ErrShape { // one node has no other
		t.Error(err)
	}
}

func TestCheapest(t *testing.T) {
	for _, c := range []struct {
		nodes        int
		arcs, supply string
		cost         string // empty: it cannot be
	}{
		{4, pipes, "4 0 0 -4", "15"},
		{4, pipes, "6 0 0 -6", ""},
		{4, pipes, "5 0 0 -5", "22"},
		{4, pipes, "501/100 0 0 -501/100", ""},
		{4, pipes, "0 0 0 0", "0"},
		{4, pipes, "-1 0 0 1", ""},
		{4, pipes, "1/2 1/3 0 -5/6", "13/6"},

		// one node
		{1, "", "0", "0"},
		{1, "0 0 3 2", "0", "0"},
		{1, "0 0 3 -2", "0", "-6"},
		{1, "0 0 3 -2, 0 0 1/2 -1/2, 0 0 7 0, 0 0 1 1", "0", "-25/4"},

		// no arcs
		{2, "", "0 0", "0"},
		{2, "", "1 -1", ""},
		{2, "", "-1/9 1/9", ""},

		// rings that pay for themselves run full
		{2, "0 1 2 -3, 1 0 5 1, 1 1 1 -1", "0 0", "-5"},
		{2, "0 1 2 -3, 1 0 5 1, 1 1 1 -1", "1 -1", "-6"},
		{2, "0 1 2 -3, 1 0 5 1, 1 1 1 -1", "-1 1", "-4"},
		{2, "0 1 2 -3, 1 0 5 3", "0 0", "0"},
		{2, "0 1 2 -3, 1 0 5 -3", "0 0", "-12"},
		{3, "0 1 4 -1, 1 2 3 -1, 2 0 2 -1, 2 1 5 1/2", "0 0 0", "-13/2"},

		// the dear way is taken only for what the cheap one has no room for
		{2, "0 1 1 1, 0 1 1 3, 0 1 9 2", "5/2 -5/2", "4"},
		{3, "0 1 1 1, 1 2 1 1, 0 2 1 9", "2 0 -2", "11"},
		{4, "0 1 1 1, 0 2 1 5, 1 2 1 1, 1 3 1 5, 2 3 1 1", "2 0 0 -2", "12"}, // the middle way is taken back

		// arcs of nothing
		{2, "0 1 0 1", "0 0", "0"},
		{2, "0 1 0 -1, 1 0 4 -1", "0 0", "0"},
		{2, "0 1 0 1", "1 -1", ""},

		// a part has enough, but cannot get it across
		{4, "0 1 9 1, 2 3 9 1", "1 -1 1 -1", "2"},
		{4, "0 1 9 1, 2 3 9 1", "1 -2 2 -1", ""},
		{4, "0 1 9 1, 2 3 9 1, 1 0 9 1", "-1 1 0 0", "1"},
	} {
		list, supply := arcs(t, c.arcs), numbers(t, c.supply)
		p, err := Cheapest(c.nodes, list, supply)
		if err != nil || p == nil {
			t.Errorf("%s; %s: %v, %v", c.arcs, c.supply, p, err)
			continue
		}
		if p.None != (c.cost == "") || !p.None && p.Cost.Text() != c.cost {
			t.Errorf("%s; %s: %v, %s, want %s", c.arcs, c.supply, p.None, p.Cost.Text(), c.cost)
		}
		checkForm(t, c.nodes, list, p)
		if ok, err := Check(c.nodes, list, supply, p); !ok || err != nil || !showsPlainly(c.nodes, list, supply, p) {
			t.Errorf("%s; %s: %+v: %v, %v", c.arcs, c.supply, p, ok, err)
		}
	}
}

// checkForm: what a plan does not tell is not there.
func checkForm(t *testing.T, nodes int, list []Arc, p *Plan) {
	t.Helper()
	if p.None && (len(p.Side) != nodes || len(p.Flow) > 0 || len(p.Prices) > 0 || p.Cost.Sign() != 0) {
		t.Errorf("None: %+v", p)
	}
	if !p.None && (len(p.Flow) != len(list) || len(p.Prices) != nodes || len(p.Side) > 0) {
		t.Errorf("%+v", p)
	}
}

func TestCheapestErrors(t *testing.T) {
	list := arcs(t, pipes)
	for _, text := range []string{"", "0", "0 0 0", "0 0 0 0 0", "1 0 0", "4 0 0 -4 0", "6 0 0 -5", "1 0 0 0", "0 0 0 -1e-60", "1/2 1/3 1/6 -1.01", "1 1 1 1"} {
		if p, err := Cheapest(4, list, numbers(t, text)); err != api.ErrShape || p != nil {
			t.Errorf("%s: %v, %v", text, p, err)
		}
	}
	if p, err := Cheapest(1, nil, numbers(t, "1")); err != api.ErrShape || p != nil {
		t.Errorf("%v, %v", p, err)
	}
	if p, err := Cheapest(1, nil, nil); err != api.ErrShape || p != nil {
		t.Errorf("%v, %v", p, err)
	}
}

func TestLinear(t *testing.T) {
	list := arcs(t, "0 1 3 1, 1 1 4 -2, 1 2 5/2 1/3, 2 0 0 0, 0 1 7 0")
	p, err := Linear(3, list, numbers(t, "4 0 -1/2"))
	if err != nil {
		t.Fatal(err)
	}
	bound := func(text string) linear.Bound { return linear.Bound{Has: true, At: number(t, text)} }
	term := func(col int, by int64) linear.Term { return linear.Term{Col: col, By: ratio.Int(by)} }
	want := &linear.Problem{
		Cols: []linear.Col{
			{Name: "arc0", Low: bound("0"), High: bound("3"), Cost: ratio.Int(1)},
			{Name: "arc1", Low: bound("0"), High: bound("4"), Cost: ratio.Int(-2)},
			{Name: "arc2", Low: bound("0"), High: bound("5/2"), Cost: number(t, "1/3")},
			{Name: "arc3", Low: bound("0"), High: bound("0")},
			{Name: "arc4", Low: bound("0"), High: bound("7")},
		},
		Rows: []linear.Row{
			{Name: "node0", Terms: []linear.Term{term(0, 1), term(3, -1), term(4, 1)}, Low: bound("4"), High: bound("4")},
			{Name: "node1", Terms: []linear.Term{term(0, -1), term(2, 1), term(4, -1)}, Low: bound("0"), High: bound("0")},
			{Name: "node2", Terms: []linear.Term{term(2, -1), term(3, 1)}, Low: bound("-1/2"), High: bound("-1/2")},
		},
	}
	if !reflect.DeepEqual(p, want) {
		t.Errorf("%+v, want %+v", p, want)
	}
}

func TestLinearEdges(t *testing.T) {
	none := repeat(ratio.R{}, api.MaxNodes)
	for _, c := range []struct {
		nodes, arcs, supplies int
		want                  error
	}{
		{1, 0, 1, nil},
		{api.MaxNodes, api.MaxCols, api.MaxNodes, nil},
		{2, api.MaxCols, 2, nil},
		{2, api.MaxCols + 1, 2, api.ErrBound},
		{2, api.MaxArcs, 2, api.ErrBound},
		{2, api.MaxArcs + 1, 2, api.ErrBound},
		{2, 1, 1, api.ErrShape},
		{2, 1, 3, api.ErrShape},
		{2, 1, 0, api.ErrShape},
		{2, api.MaxCols + 1, 3, api.ErrShape}, // of both this comes first
	} {
		p, err := Linear(c.nodes, repeat(Arc{To: 1 % c.nodes}, c.arcs), none[:c.supplies])
		if err != c.want || (p == nil) != (err != nil) {
			t.Errorf("%+v: %v, %v", c, p, err)
		}
		if p != nil && (linear.Valid(p) != nil || len(p.Cols) != c.arcs || len(p.Rows) != c.nodes) {
			t.Errorf("%+v: %+v", c, p)
		}
	}
}

// TestInputsStay: what is handed over is only read, and what is answered is new.
func TestInputsStay(t *testing.T) {
	list, supply := arcs(t, pipes+", 2 2 3 -1"), numbers(t, "4 0 0 -4")
	wasList, wasSupply := slices.Clone(list), slices.Clone(supply)
	same := func() bool { return reflect.DeepEqual(list, wasList) && reflect.DeepEqual(supply, wasSupply) }
	plan, _ := Cheapest(4, list, supply)
	problem, _ := Linear(4, list, supply)
	flow, side, much, _ := Most(4, list, 0, 3)
	kept := *plan
	kept.Flow, kept.Prices = slices.Clone(plan.Flow), slices.Clone(plan.Prices)
	if ok, _ := Check(4, list, supply, plan); !ok || !reflect.DeepEqual(kept, *plan) || !same() {
		t.Fatal("not as it was")
	}
	for i := range list {
		list[i], flow[i], plan.Flow[i], problem.Cols[i] = Arc{}, ratio.R{}, ratio.R{}, linear.Col{}
	}
	for i := range supply {
		supply[i], side[i], plan.Prices[i] = ratio.Int(9), i > 1, ratio.Int(9)
	}
	again, err := Cheapest(4, wasList, wasSupply)
	if err != nil || !reflect.DeepEqual(*again, kept) {
		t.Errorf("%+v, %+v", *again, kept)
	}
	other, _, more, _ := Most(4, wasList, 0, 3)
	if more.Cmp(much) != 0 || len(other) != len(flow) {
		t.Error(more.Text())
	}
	for i, row := range problem.Rows { // the numbers are its own
		if row.High.At.Cmp(wasSupply[i]) != 0 {
			t.Errorf("row %d: %s", i, row.High.At.Text())
		}
	}
}

func TestErrorsAreThose(t *testing.T) {
	var fault *api.Fault
	for _, err := range []error{Valid(0, nil), Valid(1, []Arc{{To: 3}})} {
		if errors.As(err, &fault) { // no place is told of them
			t.Error(err)
		}
	}
}

func TestLists(t *testing.T) {
	if got := repeat("a", 3); !slices.Equal(got, []string{"a", "a", "a"}) {
		t.Error(got)
	}
	if got := repeat(1, 0); len(got) != 0 {
		t.Error(got)
	}
	if got := each([]int{1, 2, 3}, strconv.Itoa); !slices.Equal(got, []string{"1", "2", "3"}) {
		t.Error(got)
	}
	if got := each(nil, strconv.Itoa); len(got) != 0 {
		t.Error(got)
	}
}

func TestParts(t *testing.T) {
	p := partsOf(numbers(t, "1/6 -5/4 7"), nil, numbers(t, "1/9"))
	if p.of.Text() != "36" || p.count(number(t, "-5/4")).Text() != "-45" || p.fraction(p.count(number(t, "7/9"))).Text() != "7/9" {
		t.Error(p.of.Text())
	}
	if partsOf().of.Text() != "1" {
		t.Error("no numbers")
	}
}
