package witness

import (
	"strconv"
	"testing"

	"optima/api"
	"optima/linear"
	"optima/ratio"
)

// said is a claim in texts.
type said struct {
	kind      int
	x, y, ray string
	value     string
}

func (s said) claim(t *testing.T) Claim {
	t.Helper()
	return Claim{Kind: s.kind, X: numbers(t, s.x), Y: numbers(t, s.y), Ray: numbers(t, s.ray), Value: numbers(t, s.value)[0]}
}

func shows(t *testing.T, p *linear.Problem, s said, want bool) {
	t.Helper()
	if ok, err := Check(p, s.claim(t)); err != nil || ok != want {
		t.Errorf("%+v: %v, %v", s, ok, err)
	}
}

func TestBest(t *testing.T) {
	p := problem(t, first)
	shows(t, p, said{api.Best, "4 1", "5/2", "", "17"}, true)
	for _, s := range []said{
		{api.Best, "4 1", "2", "", "17"},     // a limit, but not that one
		{api.Best, "4 1", "2", "", "20"},     // the limit, but not what the point costs
		{api.Best, "4 1/2", "5/2", "", "17"}, // it holds, but costs less
		{api.Best, "4 1/2", "5/2", "", "29/2"},
		{api.Best, "7/3 2", "5/2", "", "17"}, // it costs that, but the row does not hold
		{api.Best, "5 2/5", "5/2", "", "17"}, // nor do the columns here
		{api.Best, "4 1", "-1", "", "17"},    // no limit
		{api.Best, "4 1", "-1", "", "0"},
		{api.Best, "4 1", "", "", "17"},
		{api.Best, "4 1", "5/2 0", "", "17"},
		{api.Best, "4", "5/2", "", "17"},
		{api.Best, "4 1 0", "5/2", "", "17"},
		{api.Best, "", "5/2", "", "17"},
		{api.Best, "4 1", "5/2", "0 0", "17"},
		{api.Best, "4 1", "5/2", "0", "17"},
		{api.Best, "4 1", "5/2", "", "0"},
		{api.None, "4 1", "5/2", "", "17"},
		{api.Endless, "4 1", "5/2", "", "17"},
	} {
		shows(t, p, s, false)
	}
}

func TestBestElsewhere(t *testing.T) {
	for _, c := range []struct {
		text, x, y, value string
		want              bool
	}{
		{"", "", "", "0", true}, // the point of no columns
		{"", "", "", "1", false},
		{"maximize z: 5/3;", "", "", "5/3", true},
		{"maximize z: 5/3; subject r: 0 >= 1;", "", "0", "5/3", false},
		{"var x; minimize z: 2;", "-7/2", "", "2", true},
		{"var x >= 1; minimize z: x + 2;", "1", "", "3", true},
		{"var x >= 1; minimize z: x + 2;", "2", "", "4", false},
		{"var x >= 1; maximize z: x + 2;", "1", "", "3", false}, // there is no limit
		// The whole columns are as others.
		{"var x integer >= 0 <= 3; var y integer >= 0 <= 3; maximize z: x + y; subject r: 2 * x + 2 * y <= 5;", "5/2 0", "1/2", "5/2", true},
		{"var x integer >= 0 <= 3; var y integer >= 0 <= 3; maximize z: x + y; subject r: 2 * x + 2 * y <= 5;", "2 0", "1/2", "2", false},
		{"var x; var y; minimize z: x + 2 * y; subject a: x + y = 3; subject b: y >= -1;", "4 -1", "1 1", "2", true},
		{"var x; var y; minimize z: x + 2 * y; subject a: x + y = 3; subject b: y >= -1;", "4 -1", "1 2", "2", false}, // y has no bound
		// Bounds that cross may make a limit of any value, but no point holds.
		{"var x >= 3 <= 1; minimize z: x;", "3", "", "3", false},
		{"var x >= 3 <= 1; minimize z: x;", "2", "", "2", false},
	} {
		shows(t, problem(t, c.text), said{api.Best, c.x, c.y, "", c.value}, c.want)
	}
}

func TestNone(t *testing.T) {
	const far = "var x >= 0 <= 4; var y >= 0 <= 4; maximize z: 3 * x + 5 * y; subject one: x + 2 * y >= 13;"
	for _, s := range []struct {
		said
		want bool
	}{
		{said{api.None, "", "1", "", "0"}, true},
		{said{api.None, "", "1/9", "", "0"}, true},
		{said{api.None, "", "-1", "", "0"}, false}, // the row has no high bound
		{said{api.None, "", "0", "", "0"}, false},
		{said{api.None, "", "", "", "0"}, false}, // no bounds cross
		{said{api.None, "", "1 0", "", "0"}, false},
		{said{api.None, "", "1", "", "1"}, false},
		{said{api.None, "", "1", "", "-1/2"}, false},
		{said{api.None, "0 0", "1", "", "0"}, false},
		{said{api.None, "0", "1", "", "0"}, false},
		{said{api.None, "", "1", "0 0", "0"}, false},
		{said{api.Best, "", "1", "", "0"}, false},
		{said{api.Endless, "", "1", "", "0"}, false},
	} {
		shows(t, problem(t, far), s.said, s.want)
	}
}

func TestNoneElsewhere(t *testing.T) {
	const crossed = "var x; var y >= 2 <= 1; subject r: x + y >= 1;"
	const against = "var x >= 0; var y; subject a: x + y <= 1; subject b: 2 * x + y >= 1; subject c: x + 2 * y >= 4; "
	for _, c := range []struct {
		text, y string
		want    bool
	}{
		{"var x >= 0 <= -1; minimize z: x;", "", true}, // the document's example: nothing but the bounds is needed
		{"var x >= 0 <= 0; minimize z: x;", "", false},
		{"var x; subject r: 1 <= x <= 1/2;", "", true},
		{"var x; subject r: 1 <= x <= 1;", "", false},
		{crossed, "", true},
		{crossed, "0", false}, // with prices, these have to show it
		{crossed, "1", false},
		{"var x >= 3 <= 1; subject r: x >= 2;", "1", true},    // by the sign alone: 2 above 1
		{"var x >= 3 <= 1; subject r: x <= 2;", "-1", true},   // -2 above -3
		{"var x >= 3 <= 1; subject r: x >= 1;", "1", false},   // 1 is not above 1
		{"var x >= 0; subject r: 3 <= -x <= 1;", "1", true},   // 3 above 0
		{"var x <= 0; subject r: 3 <= -x <= 1;", "-1", false}, // -1 is not above 0
		{"subject r: 0 >= 1;", "1", true},
		{"subject r: 0 >= 1;", "-1", false},
		{"subject r: 0 <= -1;", "-1/3", true},
		{"subject r: 0 <= 0;", "-1", false}, // both are 0
		{"subject r: 0 = 1/7;", "1", true},
		{"subject r: 0 = 1/7;", "-1", false},
		{"", "", false},
		{"var x <= 5; subject r: x >= 6;", "1", true},
		{"var x <= 6; subject r: x >= 6;", "1", false}, // just as much
		{"var x; subject r: x >= 6;", "1", false},      // no end of the columns
		{"var x >= 5; subject r: x <= 4;", "-1", true},
		{"var x >= 5; subject r: x <= 4;", "1", false},
		{"var x; subject a: x <= 1; subject b: x >= 2;", "-1 1", true},
		{"var x; subject a: x <= 1; subject b: x >= 2;", "1 -1", false},
		{"var x; subject a: x <= 1; subject b: x >= 2;", "-1 2", false}, // x is left, and it has no bound
		{"var x; subject a: x <= 2; subject b: x >= 2;", "-1 1", false},
		{against, "-2 0 1", true}, // -x >= 2
		{against, "-2 1 1", false},
		{"var x integer >= 1/3 <= 2/3;", "", false}, // as others
		{"var x integer; subject r: 1/3 <= x <= 2/3;", "1", false},
	} {
		for _, goal := range []bool{false, true} {
			p := problem(t, c.text)
			p.Max = goal // of what is looked for nothing hangs
			p.Shift = ratio.Int(5)
			if len(p.Cols) > 0 {
				p.Cols[0].Cost = ratio.Int(-3)
			}
			shows(t, p, said{api.None, "", c.y, "", "0"}, c.want)
		}
	}
}

func TestEndless(t *testing.T) {
	const text = "var x >= 0; var y >= 0; minimize z: -x; subject r: x - y <= 1;"
	for _, s := range []struct {
		said
		want bool
	}{
		{said{api.Endless, "0 0", "", "1 1", "0"}, true},
		{said{api.Endless, "1 0", "", "1/3 1/2", "0"}, true},
		{said{api.Endless, "0 0", "", "1 0", "0"}, false},  // the row's high bound
		{said{api.Endless, "0 0", "", "0 1", "0"}, false},  // nothing is gained
		{said{api.Endless, "0 0", "", "0 0", "0"}, false},  // nor here
		{said{api.Endless, "0 0", "", "-1 1", "0"}, false}, // x's low bound
		{said{api.Endless, "5 5", "", "1 -1", "0"}, false}, // y's low bound
		{said{api.Endless, "2 0", "", "1 1", "0"}, false},  // it does not hold
		{said{api.Endless, "-1 0", "", "1 1", "0"}, false}, // nor does this one
		{said{api.Endless, "0 0", "0", "1 1", "0"}, false}, // prices
		{said{api.Endless, "0 0", "", "1 1", "1"}, false},  // a value
		{said{api.Endless, "0 0", "", "1 1", "-5"}, false}, // another one
		{said{api.Endless, "0 0", "", "1", "0"}, false},    // lists of another length
		{said{api.Endless, "0 0", "", "1 1 0", "0"}, false},
		{said{api.Endless, "0 0", "", "", "0"}, false},  //
		{said{api.Endless, "0", "", "1 1", "0"}, false}, //
		{said{api.Endless, "0 0 0", "", "1 1", "0"}, false},
		{said{api.Endless, "", "", "1 1", "0"}, false}, //
		{said{api.Best, "0 0", "", "1 1", "0"}, false},
		{said{api.None, "0 0", "", "1 1", "0"}, false},
	} {
		shows(t, problem(t, text), s.said, s.want)
	}
}

func TestEndlessElsewhere(t *testing.T) {
	for _, c := range []struct {
		text, x, ray string
		want         bool
	}{
		{"var x; minimize z: x;", "0", "-1", true},
		{"var x; minimize z: x;", "0", "1", false},
		{"var x; maximize z: x;", "0", "1", true},
		{"var x; maximize z: x;", "0", "-1", false},
		{"var x; maximize z: 5;", "0", "1", false},
		{"var x; maximize z: x; subject r: 0 * x <= 1;", "0", "1", true}, // a row that does not move
		{"var x; maximize z: x; subject r: -x <= 1;", "0", "1", true},
		{"var x; maximize z: x; subject r: -x >= -1;", "0", "1", false}, // the row's low bound
		{"var x; var y; maximize z: x; subject r: x - y = 2;", "2 0", "1 1", true},
		{"var x; var y; maximize z: x; subject r: x - y = 2;", "2 0", "2 1", false},
		{"var x; var y; maximize z: x; subject r: x - y = 2;", "2 0", "1 2", false},
		{"var x; var y; maximize z: x - y; subject r: x - y <= 2;", "2 0", "1 1", false},
		{"var x >= 1 <= 1; var y; minimize z: y;", "1 0", "0 -1", true}, // x is bound, and stays
		{"var x >= 1 <= 1; var y; minimize z: y;", "1 0", "1/9 -1", false},
		{"var x >= 1 <= 1; var y; minimize z: y;", "1 0", "-1/9 -1", false},
		{"var x integer; maximize z: x;", "1/2", "1/3", true}, // as others
		{"var x >= 2 <= 1; var y; minimize z: y;", "1 0", "0 -1", false},
		{"", "", "", false},
	} {
		p := problem(t, c.text)
		shows(t, p, said{api.Endless, c.x, "", c.ray, "0"}, c.want)
		p.Shift = ratio.Int(7) // it does not count
		shows(t, p, said{api.Endless, c.x, "", c.ray, "0"}, c.want)
	}
}

func TestOtherKinds(t *testing.T) {
	p := problem(t, first)
	for _, kind := range []int{0, -1, 4, 9, 1 << 40} {
		shows(t, p, said{kind, "4 1", "5/2", "", "17"}, false)
		shows(t, p, said{kind, "", "", "", "0"}, false)
	}
	if ok, err := Check(p, Claim{}); ok || err != nil {
		t.Errorf("nothing: %v, %v", ok, err)
	}
}

// TestEmptyLists: a nil list and an empty one are one thing (P3).
func TestEmptyLists(t *testing.T) {
	empty := []ratio.R{}
	for _, c := range []struct {
		text  string
		claim Claim
	}{
		{first, Claim{Kind: api.Best, X: numbers(t, "4 1"), Y: numbers(t, "5/2"), Ray: empty, Value: ratio.Int(17)}},
		{"", Claim{Kind: api.Best, X: empty, Y: empty, Ray: empty}},
		{"var x >= 1 <= 0;", Claim{Kind: api.None, X: empty, Y: empty, Ray: empty}},
		{"var x; maximize z: x; subject r: x >= 0;", Claim{Kind: api.Endless, X: numbers(t, "0"), Y: empty, Ray: numbers(t, "1")}},
	} {
		if ok, err := Check(problem(t, c.text), c.claim); !ok || err != nil {
			t.Errorf("%s: %v, %v", c.text, ok, err)
		}
	}
}

// TestLargest: as many columns and rows as there may be, with numbers of many digits. Each row is the sum of the columns from its own on, so that by the price 1 of each row all costs are paid.
func TestLargest(t *testing.T) {
	huge := numbers(t, "123456789012345678901234567890123456789/7")[0]
	p := &linear.Problem{Shift: huge}
	claim := Claim{Kind: api.Best}
	for i := range api.MaxCols {
		p.Cols = append(p.Cols, linear.Col{Name: "c" + strconv.Itoa(i), Cost: ratio.Int(int64(i + 1))})
		claim.X = append(claim.X, huge)
	}
	for i := range api.MaxRows {
		row := linear.Row{Name: "r" + strconv.Itoa(i), Low: linear.Bound{Has: true, At: huge.Mul(ratio.Int(int64(api.MaxCols - i)))}}
		for k := i; k < api.MaxCols; k++ {
			row.Terms = append(row.Terms, linear.Term{Col: k, By: ratio.Int(1)})
		}
		p.Rows = append(p.Rows, row)
		claim.Y = append(claim.Y, ratio.Int(1))
	}
	claim.Value = huge.Mul(ratio.Int(api.MaxCols*(api.MaxCols+1)/2 + 1))
	if ok, err := Check(p, claim); !ok || err != nil {
		t.Errorf("the best one: %v, %v", ok, err)
	}
	claim.Value = claim.Value.Add(numbers(t, "1e-60")[0])
	if ok, err := Check(p, claim); ok || err != nil {
		t.Errorf("just beside: %v, %v", ok, err)
	}
}
