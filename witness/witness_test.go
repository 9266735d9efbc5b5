package witness

import (
	"errors"
	"strconv"
	"strings"
	"testing"

	"optima/api"
	"optima/linear"
	"optima/ratio"
	"optima/tongue"
)

// first is the problem of the document's examples: 17 is its most, at 4 and 1.
const first = "var x >= 0 <= 4; var y >= 0 <= 4; maximize z: 3 * x + 5 * y; subject one: x + 2 * y <= 6;"

func problem(t *testing.T, text string) *linear.Problem {
	t.Helper()
	n, err := tongue.Read(text)
	if err != nil {
		t.Fatalf("%s: %v", text, err)
	}
	p, err := linear.Expand(n)
	if err != nil {
		t.Fatalf("%s: %v", text, err)
	}
	return p
}

// numbers are those of a text, with blanks between.
func numbers(t *testing.T, text string) []ratio.R {
	t.Helper()
	var out []ratio.R
	for _, word := range strings.Fields(text) {
		r, err := ratio.Read(word)
		if err != nil {
			t.Fatalf("%q: %v", word, err)
		}
		out = append(out, r)
	}
	return out
}

func texts(list []ratio.R) string {
	var out []string
	for _, r := range list {
		out = append(out, r.Text())
	}
	return strings.Join(out, " ")
}

func TestPrices(t *testing.T) {
	const two = "var x; var y; var w; minimize z: x - y / 2; subject a: x + 2 * y <= 6; subject b: y / 3 - w >= 1;"
	for _, c := range []struct{ text, y, want string }{
		{first, "5/2", "1/2 0"},
		{first, "0", "3 5"},
		{first, "-1", "4 7"},
		{two, "0 0", "1 -1/2 0"},
		{two, "1 0", "0 -5/2 0"},
		{two, "0 1", "1 -5/6 1"},
		{two, "1/2 -3", "1/2 -1/2 -3"},
		{"var x integer; minimize z: 7 * x + 9;", "", "7"},
		{"var x; maximize z: 7; subject r: x - x <= 1;", "5", "0"},
		{"", "", ""},
	} {
		if got := texts(Prices(problem(t, c.text), numbers(t, c.y))); got != c.want {
			t.Errorf("%s at %q: %q, want %q", c.text, c.y, got, c.want)
		}
	}
}

func TestLimit(t *testing.T) {
	const both = "var x >= 0; var y; minimize z: 2 * x + 3 * y + 1/2; subject a: x + y >= 4; subject b: x - y = 1;"
	for _, c := range []struct{ text, y, want string }{ // no want: no end
		{first, "5/2", "17"},
		{first, "2", "20"},
		{first, "3", "18"},
		{first, "0", "32"},
		{first, "-1", ""},
		{both, "5/2 -1/2", "10"},
		{both, "3 0", ""},       // x's entry is below 0, and it has no high bound
		{both, "2 -1", "15/2"},  // x's is above 0: its low bound counts
		{both, "2 0", ""},       // y's is not 0, and it has no bound
		{both, "-1 -4", ""},     // a has no high bound
		{both, "0 -3", "-5/2"},  // a's price is 0: that it has no high bound does not matter
		{both, "-1/2 -7/2", ""}, // y's is 0, but x's is above and a's price below 0
		{"var x integer >= 1/2 <= 7/2; maximize z: x - 1;", "", "5/2"}, // as others
		{"var x integer >= 1/2 <= 7/2; minimize z: x - 1;", "", "-1/2"},
		{"minimize z: 5/7;", "", "5/7"},
		{"maximize z: -3; subject r: 2 <= 0 <= 4;", "3/2", "3"},
		{"maximize z: -3; subject r: 2 <= 0 <= 4;", "-3/2", "-6"},
		{"", "", "0"},
	} {
		v, ends, err := Limit(problem(t, c.text), numbers(t, c.y))
		want := c.want
		if want == "" {
			want = "0" // beside a false stands nothing
		}
		if err != nil || ends != (c.want != "") || v.Text() != want {
			t.Errorf("%s at %q: %s, %v, %v, want %q", c.text, c.y, v.Text(), ends, err, c.want)
		}
	}
}

// TestLimitOfOne: one column or one row alone, with each way to be bound.
func TestLimitOfOne(t *testing.T) {
	at := func(n int64) linear.Bound { return linear.Bound{Has: true, At: ratio.Int(n)} }
	none := linear.Bound{At: ratio.Int(99)} // whatever stands there
	for _, c := range []struct {
		what      string
		low, high linear.Bound
		least     [3]string // by 2, by -2, by 0
		most      [3]string
	}{
		{"no bound", none, none, [3]string{"", "", "0"}, [3]string{"", "", "0"}},
		{"low", at(3), none, [3]string{"6", "", "0"}, [3]string{"", "-6", "0"}},
		{"high", none, at(5), [3]string{"", "-10", "0"}, [3]string{"10", "", "0"}},
		{"both", at(3), at(5), [3]string{"6", "-10", "0"}, [3]string{"10", "-6", "0"}},
		{"crossed", at(5), at(3), [3]string{"10", "-6", "0"}, [3]string{"6", "-10", "0"}},
		{"at 0", at(0), at(0), [3]string{"0", "0", "0"}, [3]string{"0", "0", "0"}},
	} {
		for i, by := range []ratio.R{ratio.Int(2), ratio.Int(-2), {}} {
			for _, most := range []bool{false, true} {
				want := c.least[i]
				if most {
					want = c.most[i]
				}
				col := &linear.Problem{Max: most, Cols: []linear.Col{{Name: "x", Low: c.low, High: c.high, Cost: by}}}
				row := &linear.Problem{Max: most, Rows: []linear.Row{{Name: "r", Low: c.low, High: c.high}}}
				limitIs(t, c.what+", a column", col, nil, want)
				limitIs(t, c.what+", a row", row, []ratio.R{by}, want)
			}
		}
	}
}

func limitIs(t *testing.T, what string, p *linear.Problem, y []ratio.R, want string) {
	t.Helper()
	v, ends, err := Limit(p, y)
	if err != nil || ends != (want != "") || ends && v.Text() != want || !ends && v.Sign() != 0 {
		t.Errorf("%s (most: %v): %s, %v, %v, want %q", what, p.Max, v.Text(), ends, err, want)
	}
}

// TestWrongProblems: Valid's error comes ahead of all else, and nothing is told beside it.
func TestWrongProblems(t *testing.T) {
	bent := func(bend func(p *linear.Problem)) *linear.Problem {
		p := problem(t, first)
		bend(p)
		return p
	}
	for _, c := range []struct {
		what string
		p    *linear.Problem
		want error
	}{
		{"nil", nil, api.ErrShape},
		{"too many columns", bent(func(p *linear.Problem) {
			for i := range api.MaxCols {
				p.Cols = append(p.Cols, linear.Col{Name: strconv.Itoa(i)})
			}
		}), api.ErrBound},
		{"too many rows", bent(func(p *linear.Problem) {
			for i := range api.MaxRows {
				p.Rows = append(p.Rows, linear.Row{Name: strconv.Itoa(i)})
			}
		}), api.ErrBound},
		{"a name twice", bent(func(p *linear.Problem) { p.Cols[1].Name = "x" }), api.ErrName},
		{"no name", bent(func(p *linear.Problem) { p.Rows[0].Name = "" }), api.ErrName},
		{"a column that is not there", bent(func(p *linear.Problem) { p.Rows[0].Terms[1].Col = 2 }), api.ErrShape},
		{"a column below all", bent(func(p *linear.Problem) { p.Rows[0].Terms[0].Col = -1 }), api.ErrShape},
		{"the number 0", bent(func(p *linear.Problem) { p.Rows[0].Terms[0].By = ratio.R{} }), api.ErrShape},
	} {
		for _, y := range []string{"", "5/2", "1 2 3"} {
			if d := Prices(c.p, numbers(t, y)); len(d) != 0 {
				t.Errorf("%s: Prices %s", c.what, texts(d))
			}
			if v, ends, err := Limit(c.p, numbers(t, y)); !errors.Is(err, c.want) || ends || v.Sign() != 0 {
				t.Errorf("%s: Limit %s, %v, %v", c.what, v.Text(), ends, err)
			}
			for _, kind := range []int{api.Best, api.None, api.Endless, 0, 9} {
				claim := Claim{Kind: kind, X: numbers(t, "4 1"), Y: numbers(t, y), Value: ratio.Int(17)}
				if ok, err := Check(c.p, claim); !errors.Is(err, c.want) || ok {
					t.Errorf("%s: Check %v, %v", c.what, ok, err)
				}
			}
		}
	}
}

func TestPricesOfAnotherLength(t *testing.T) {
	for _, y := range [][]ratio.R{nil, {}, numbers(t, "5/2 0"), make([]ratio.R, 999)} {
		if d := Prices(problem(t, first), y); len(d) != 0 {
			t.Errorf("%d prices: %s", len(y), texts(d))
		}
		v, ends, err := Limit(problem(t, first), y)
		if !errors.Is(err, api.ErrShape) || ends || v.Sign() != 0 {
			t.Errorf("%d prices: %s, %v, %v", len(y), v.Text(), ends, err)
		}
	}
	if _, _, err := Limit(&linear.Problem{}, numbers(t, "0")); !errors.Is(err, api.ErrShape) {
		t.Errorf("a price of no row: %v", err)
	}
}

// TestOnlyRead: what is handed over stays as it is, and an answer is nobody else's (P4).
func TestOnlyRead(t *testing.T) {
	p, y := problem(t, first), numbers(t, "5/2")
	kept := linear.Twin(p)
	a, b := Prices(p, y), Prices(p, y)
	for i := range a {
		a[i] = ratio.Int(99)
	}
	if texts(b) != "1/2 0" || texts(Prices(p, y)) != "1/2 0" {
		t.Error("what is written into one answer shows in another one")
	}
	claim := Claim{Kind: api.Best, X: numbers(t, "4 1"), Y: y, Value: ratio.Int(17)}
	if ok, err := Check(p, claim); !ok || err != nil {
		t.Errorf("%v, %v", ok, err)
	}
	if texts(y) != "5/2" || texts(claim.X) != "4 1" {
		t.Error("lists have changed")
	}
	limitIs(t, "behind all", p, y, "17")
	if !same(p, kept) {
		t.Error("the problem has changed")
	}
}

func same(p, q *linear.Problem) bool {
	bound := func(a, b linear.Bound) bool { return a.Has == b.Has && a.At.Cmp(b.At) == 0 }
	if p.Max != q.Max || p.Shift.Cmp(q.Shift) != 0 || len(p.Cols) != len(q.Cols) || len(p.Rows) != len(q.Rows) {
		return false
	}
	for i, a := range p.Cols {
		b := q.Cols[i]
		if a.Name != b.Name || a.Whole != b.Whole || a.Cost.Cmp(b.Cost) != 0 || !bound(a.Low, b.Low) || !bound(a.High, b.High) {
			return false
		}
	}
	for i, a := range p.Rows {
		b := q.Rows[i]
		if a.Name != b.Name || len(a.Terms) != len(b.Terms) || !bound(a.Low, b.Low) || !bound(a.High, b.High) {
			return false
		}
		for k, term := range a.Terms {
			if term.Col != b.Terms[k].Col || term.By.Cmp(b.Terms[k].By) != 0 {
				return false
			}
		}
	}
	return true
}
