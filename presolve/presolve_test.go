package presolve

import (
	"errors"
	"reflect"
	"slices"
	"strconv"
	"strings"
	"testing"

	"optima/api"
	"optima/linear"
	"optima/plain"
	"optima/ratio"
	"optima/tongue"
)

// wide keeps x and the bounds that it has got: no rule has anything to say about it.
const wide = "var u; var v; minimize z: x + u; subject wide: x + u + v <= 1; "

func problem(t *testing.T, text string) *linear.Problem {
	t.Helper()
	n, err := tongue.Read(text)
	if err != nil {
		t.Fatalf("%s: %v", text, err)
	}
	p, err := linear.Expand(n)
	if err != nil {
		t.Fatalf("%s: %v", text, err)
	}
	return p
}

func smaller(t *testing.T, p *linear.Problem) *Result {
	t.Helper()
	r, err := Smaller(p)
	if err != nil || r == nil {
		t.Fatalf("%+v: %v", p, err)
	}
	return r
}

// told is a result in one line: the steps, what is looked for, columns, rows.
func told(p *linear.Problem, r *Result) string {
	if r.None {
		return "none"
	}
	var out []string
	for _, s := range r.Steps {
		text := p.Cols[s.Col].Name + "=" + s.At.Text()
		if (s.Kind == api.StepBack) != (len(s.Terms) > 0) || s.Kind != api.StepBack && s.Kind != api.StepFixed {
			text += "?"
		}
		out = append(out, text+terms(s.Terms, p.Cols))
	}
	goal := "min "
	if r.Small.Max {
		goal = "max "
	}
	out = append(out, goal+r.Small.Shift.Text())
	for i, c := range r.Small.Cols {
		text := c.Name + ":" + plain.BoundText(c.Low) + ".." + plain.BoundText(c.High) + "*" + c.Cost.Text()
		if c.Whole {
			text += "w"
		}
		if p.Cols[r.Cols[i]].Name != c.Name {
			text += "?"
		}
		out = append(out, text)
	}
	for _, row := range r.Small.Rows {
		out = append(out, row.Name+":"+plain.BoundText(row.Low)+".."+plain.BoundText(row.High)+terms(row.Terms, r.Small.Cols))
	}
	return strings.Join(out, " ")
}

func terms(list []linear.Term, cols []linear.Col) string {
	out := ""
	for _, t := range list {
		out += "," + t.By.Text() + cols[t.Col].Name
	}
	return out
}

type example struct{ text, want string }

func hold(t *testing.T, list []example) {
	t.Helper()
	for _, e := range list {
		p := problem(t, e.text)
		if got := told(p, smaller(t, p)); got != e.want {
			t.Errorf("%s:\n%s, want\n%s", e.text, got, e.want)
		}
	}
}

func TestNothing(t *testing.T) {
	hold(t, []example{
		{"", "min 0"},
		{"maximize z: 5;", "max 5"},
		{"var x; " + wide, "min 0 x:..*1 u:..*1 v:..*0 wide:..1,1x,1u,1v"},
		{"var x >= 0 <= 1; var y >= 0 <= 1; maximize z: x + 2 * y + 3; subject r: x + y <= 3/2;", "max 3 x:0..1*1 y:0..1*2 r:..3/2,1x,1y"},
	})
}

// TestCrossed is the first rule.
func TestCrossed(t *testing.T) {
	hold(t, []example{
		{"var x >= 1 <= 0;", "none"},
		{"var x >= 0 <= 0;", "x=0 min 0"},
		{"var x integer >= 1 <= 1/2;", "none"},
		{"var x; var u; var v; subject r: 2 <= x + u + v <= 1;", "none"},
		{"var x; subject r: 2 <= x <= 1;", "none"},
		{"var x >= 2; subject r: x <= 1;", "none"}, // once the row has gone
		{"var x; subject r: 1 <= x; subject q: x <= 0;", "none"},
	})
}

// TestEmpty is the second rule.
func TestEmpty(t *testing.T) {
	hold(t, []example{
		{"var x; subject r: x - x <= 1;", "x=0 min 0"},
		{"var x; subject r: x - x <= 0;", "x=0 min 0"},
		{"var x; subject r: x - x >= 0;", "x=0 min 0"},
		{"var x; subject r: x - x >= -1;", "x=0 min 0"},
		{"var x; subject r: x - x = 0;", "x=0 min 0"},
		{"var x; subject r: x - x <= -1;", "none"},
		{"var x; subject r: x - x >= 1/9;", "none"},
		{"var x; subject r: -3 <= x - x <= -2;", "none"},
		{"var x; " + wide + "subject r: x - x <= 1;", "min 0 x:..*1 u:..*1 v:..*0 wide:..1,1x,1u,1v"},
	})
}

// TestSingle is the third rule.
func TestSingle(t *testing.T) {
	rest := " u:..*1 v:..*0 wide:..1,1x,1u,1v"
	for _, e := range []struct{ x, row, want string }{
		{"", "2 * x <= 5", "x:..5/2*1"},
		{"", "2 * x >= 5", "x:5/2..*1"},
		{"", "-2 * x <= 5", "x:-5/2..*1"},
		{"", "-2 * x >= 5", "x:..-5/2*1"},
		{"", "-3 <= 2 * x <= 5", "x:-3/2..5/2*1"},
		{"", "-3 <= -2 * x <= 5", "x:-5/2..3/2*1"},
		{">= 1 <= 4", "-3 <= x <= 5", "x:1..4*1"}, // no bound goes outward
		{">= 1 <= 4", "2 <= x <= 5", "x:2..4*1"},
		{">= 1 <= 4", "0 <= x <= 3", "x:1..3*1"},
		{">= 1 <= 4", "1 <= x <= 4", "x:1..4*1"},
		{">= 1", "x <= 4", "x:1..4*1"},
		{"<= 4", "x >= 1", "x:1..4*1"},
		{"integer", "2 * x <= 5", "x:..2*1w"},
		{"integer", "2 * x >= 5", "x:3..*1w"},
		{"integer", "-2 * x <= 5", "x:-2..*1w"},
		{"integer", "-2 * x >= 5", "x:..-3*1w"},
		{"integer", "-6 <= 2 * x <= 4", "x:-3..2*1w"},
		{"integer >= 1/2", "3 * x >= 1", "x:1..*1w"}, // 1/3 is below 1/2, but the whole number above it is not
		{"integer <= 1/2", "4 * x <= 3", "x:..0*1w"},
		{"integer >= 1/2 <= 7/2", "x <= 5", "x:1/2..7/2*1w"}, // what no row asks for stays as it is
		{"integer >= 1/2", "x >= 0", "x:1/2..*1w"},
	} {
		hold(t, []example{{"var x " + e.x + "; " + wide + "subject r: " + e.row + ";", "min 0 " + e.want + rest}})
	}
	p := problem(t, "var x; var u; var v; subject r: x <= 1; subject wide: x + u + v <= 1;")
	p.Rows[0].High.Has = false
	if got := told(p, smaller(t, p)); got != "min 0 x:..*0 u:..*0 v:..*0 wide:..1,1x,1u,1v" {
		t.Errorf("a row without bounds: %s", got)
	}
	hold(t, []example{{"var x integer >= 0; subject r: 1/3 <= x <= 2/3;", "none"}})
}

// TestStill is the fourth rule.
func TestStill(t *testing.T) {
	hold(t, []example{
		{"var x >= 2 <= 2; minimize z: 3 * x + 1;", "x=2 min 7"},
		{"var x >= 2 <= 2; maximize z: 3 * x + 1;", "x=2 max 7"},
		{"var x integer >= 2 <= 2;", "x=2 min 0"},
		{"var x integer >= 1/2 <= 1/2;", "none"},
		{"var x >= 1/2 <= 1/2; var u; var v; var w; minimize z: 2 * x + u + w; subject r: -1 <= 3 * x + u + v + w <= 4;", "x=1/2 min 1 u:..*1 v:..*0 w:..*1 r:-5/2..5/2,1u,1v,1w"},
		{"var x >= 1/2 <= 1/2; var u; var v; var w; minimize z: u; subject r: u - 3 * x + v + w >= 4; subject q: u + v + w <= 1;", "x=1/2 min 0 u:..*1 v:..*0 w:..*0 r:11/2..,1u,1v,1w q:..1,1u,1v,1w"},
		{"var u; var x integer; var v; minimize z: x + u; subject r: x = 4; subject q: x + u + v <= 1;", "x=4 min 4 u:..*1 v:..*0 q:..-3,1u,1v"},
	})
}

// TestApart is the fifth rule.
func TestApart(t *testing.T) {
	for _, e := range []struct{ x, least, zero, most string }{
		{">= 1 <= 4", "x=1 min 1", "x=1 min 0", "x=4 max 4"},
		{">= 1", "x=1 min 1", "x=1 min 0", "max 0 x:1..*1"},
		{"<= 4", "min 0 x:..4*1", "x=4 min 0", "x=4 max 4"},
		{"", "min 0 x:..*1", "x=0 min 0", "max 0 x:..*1"},
		{">= -4 <= -1", "x=-4 min -4", "x=-4 min 0", "x=-1 max -1"},
		{"integer", "min 0 x:..*1w", "x=0 min 0", "max 0 x:..*1w"},
		{"integer >= 1/2 <= 7/2", "x=1 min 1", "x=1 min 0", "x=3 max 3"},
		{"integer >= -7/2 <= -1/2", "x=-3 min -3", "x=-3 min 0", "x=-1 max -1"},
		{"integer >= 1/2", "x=1 min 1", "x=1 min 0", "max 0 x:1..*1w"},
		{"integer <= 7/2", "min 0 x:..3*1w", "x=3 min 0", "x=3 max 3"},
		{"integer >= 1/3 <= 2/3", "none", "none", "none"},
		{"integer >= 1/3 <= 5/3", "x=1 min 1", "x=1 min 0", "x=1 max 1"},
		{"binary", "x=0 min 0", "x=0 min 0", "x=1 max 1"},
	} {
		hold(t, []example{
			{"var x " + e.x + "; minimize z: x;", e.least},
			{"var x " + e.x + "; minimize z: 0;", e.zero},
			{"var x " + e.x + "; maximize z: x;", e.most},
		})
	}
	hold(t, []example{
		{"var x >= 1 <= 4; minimize z: -x;", "x=4 min -4"},
		{"var x >= 1 <= 4; maximize z: -x;", "x=1 max -1"},
		{"var x >= 1 <= 4; maximize z: 0;", "x=1 max 0"},
		{"var x; maximize z: 0; subject r: x <= 3;", "x=3 max 0"},
		// what can't be put does not stop the columns behind it
		{"var x; var y >= 1; minimize z: x + y;", "y=1 min 1 x:..*1"},
	})
}

// TestReached is the sixth rule.
func TestReached(t *testing.T) {
	const xy = "var x >= 1 <= 2; var y >= -3 <= 5; minimize z: x + y; subject r: "
	const left = "min 0 x:1..2*1 y:-3..5*1 r:"
	hold(t, []example{
		// x + y is from -2 to 7
		{xy + "x + y <= -3;", "none"},
		{xy + "x + y >= 8;", "none"},
		{xy + "x + y <= -2;", "x=1 y=-3 min -2"},
		{xy + "x + y >= 7;", "x=2 y=5 min 7"},
		{xy + "x + y = -2;", "x=1 y=-3 min -2"},
		{xy + "x + y = 7;", "x=2 y=5 min 7"},
		{xy + "x + y >= -2;", "x=1 y=-3 min -2"},
		{xy + "x + y <= 7;", "x=1 y=-3 min -2"},
		{xy + "-2 <= x + y <= 7;", "x=1 y=-3 min -2"},
		{xy + "-1 <= x + y <= 7;", left + "-1..7,1x,1y"},
		{xy + "-2 <= x + y <= 6;", left + "-2..6,1x,1y"},
		{xy + "x + y <= 6;", left + "..6,1x,1y"},
		{xy + "x + y >= -1;", left + "-1..,1x,1y"},
		// x - 2 * y is from -9 to 8
		{xy + "x - 2 * y <= -10;", "none"},
		{xy + "x - 2 * y >= 9;", "none"},
		{xy + "x - 2 * y <= -9;", "x=1 y=5 min 6"},
		{xy + "x - 2 * y >= 8;", "x=2 y=-3 min -1"},
		{xy + "-9 <= x - 2 * y <= 8;", "x=1 y=-3 min -2"},
		{xy + "x - 2 * y <= -8;", left + "..-8,1x,-2y"},
	})
	const open = "var x >= 1; var y >= -3; minimize z: -x - y; subject r: "
	const free = "var x <= 1; var y <= -3; minimize z: x + y; subject r: "
	hold(t, []example{
		{open + "x + y <= -3;", "none"},
		{open + "x + y <= -2;", "x=1 y=-3 min 2"},
		{open + "x + y >= -2;", "min 0 x:1..*-1 y:-3..*-1"},
		{open + "x + y >= 8;", "min 0 x:1..*-1 y:-3..*-1 r:8..,1x,1y"},
		{open + "x + y <= 8;", "min 0 x:1..*-1 y:-3..*-1 r:..8,1x,1y"},
		{open + "-2 <= x + y <= 8;", "min 0 x:1..*-1 y:-3..*-1 r:-2..8,1x,1y"},
		{open + "x - y <= -3;", "min 0 x:1..*-1 y:-3..*-1 r:..-3,1x,-1y"},
		{free + "x + y >= -1;", "none"},
		{free + "x + y >= -2;", "x=1 y=-3 min -2"},
		{free + "x + y <= -2;", "min 0 x:..1*1 y:..-3*1"},
		{free + "x + y <= -9;", "min 0 x:..1*1 y:..-3*1 r:..-9,1x,1y"},
		{free + "x + y >= -9;", "min 0 x:..1*1 y:..-3*1 r:-9..,1x,1y"},
		// whole columns stand at the bounds that they have, and these may be none for them
		{"var x integer >= 1/2 <= 2; var y >= 0 <= 1; subject r: x + y <= 1/2;", "none"},
		{"var x integer >= 1/2 <= 2; var y >= 0 <= 1; maximize z: x; subject r: x + y <= 1;", "max 0 x:1/2..2*1w y:0..1*0 r:..1,1x,1y"},
	})
	p := problem(t, open+"x + y >= 8;")
	p.Rows[0].Low.Has = false
	if got := told(p, smaller(t, p)); got != "min 0 x:1..*-1 y:-3..*-1" {
		t.Errorf("a row without bounds: %s", got)
	}
}

// TestPair is the seventh rule.
func TestPair(t *testing.T) {
	for _, e := range []struct{ x, y, row, want string }{
		{"", "", "x + 2 * y = 4", "y=2,-1/2x min 2 x:..*1/2"},
		{"", "", "2 * x - y = 4", "y=-4,2x min -4 x:..*3"},
		{"", ">= 0", "x + 2 * y = 4", "y=2,-1/2x min 2 x:..4*1/2"},
		{"", "<= 9", "x + 2 * y = 4", "y=2,-1/2x x=-14 min -5"},
		{"", ">= 0", "2 * x - y = 4", "y=-4,2x x=2 min 2"},
		{"", "<= 9", "2 * x - y = 4", "y=-4,2x min -4 x:..13/2*3"},
		{"<= 3", ">= 0", "x + 2 * y = 4", "y=2,-1/2x min 2 x:..3*1/2"},
		{"<= 5", ">= 0", "x + 2 * y = 4", "y=2,-1/2x min 2 x:..4*1/2"},
		{">= 5", ">= 0", "x + 2 * y = 4", "none"},
		{">= 4", ">= 0", "x + 2 * y = 4", "x=4 y=0 min 4"}, // the least that it can be
		{"integer", "", "x + 2 * y = 4", "min 0 x:..*1w y:..*1 r:4..4,1x,2y"},
		{"", "integer", "x + 2 * y = 4", "min 0 x:..*1 y:..*1w r:4..4,1x,2y"},
		{"", "", "3 <= x + 2 * y <= 4", "min 0 x:..*1 y:..*1 r:3..4,1x,2y"},
		{"", "", "x + 2 * y >= 4", "min 0 x:..*1 y:..*1 r:4..,1x,2y"},
		{"", "", "x + 2 * y <= 4", "min 0 x:..*1 y:..*1 r:..4,1x,2y"},
	} {
		hold(t, []example{{"var x " + e.x + "; var y " + e.y + "; minimize z: x + y; subject r: " + e.row + ";", e.want}})
	}
	hold(t, []example{
		// in the rows behind, between their terms
		{"var a; var x; var b; var y; var c; maximize z: 6 * y; subject q: 1 <= a + b + 2 * y + c <= 8; subject r: x + 2 * y = 4;",
			"y=2,-1/2x max 12 a:..*0 x:..*-3 b:..*0 c:..*0 q:-3..4,1a,-1x,1b,1c"},
		// added to a term that is there
		{"var a; var x; var y; maximize z: x + 6 * y; subject r: x + 2 * y = 4; subject q: a + x + 4 * y <= 8;",
			"y=2,-1/2x max 12 a:..*0 x:..*-2 q:..0,1a,-1x"},
		// a term that comes to nothing is none: the row is one of one term then, and tells a bound
		{"var a; var x; var y; maximize z: a + x; subject r: x + 2 * y = 4; subject q: a + 2 * x + 4 * y <= 9;",
			"y=2,-1/2x a=1 max 1 x:..*1"},
		// and a row that says the same twice goes, one that says another thing leaves nothing
		{"var x; var y; maximize z: x; subject r: x + 2 * y = 4; subject q: 2 * x + 4 * y = 8;", "y=2,-1/2x max 0 x:..*1"},
		{"var x; var y; maximize z: x; subject r: x + 2 * y = 4; subject q: 2 * x + 4 * y = 9;", "none"},
		// a chain: each one follows from the first
		{"var a; var b; var c; var d; minimize z: d; subject r: a - b = 1; subject q: b - c = 1; subject s: c - d = 1;",
			"b=-1,1a c=-2,1a d=-3,1a min -3 a:..*1"},
		// and a chain where the one that others follow from goes later
		{"var a; var b; var c; minimize z: c; subject r: b - c = 1; subject q: a - b = 1;", "c=-1,1b b=-1,1a min -2 a:..*1"},
	})
}

// TestOrder: the first rule that does something goes ahead of the others, at the first place.
func TestOrder(t *testing.T) {
	hold(t, []example{
		// rows of one term all go ahead of columns that stand still, and those go by columns
		{"var x; var y; subject r: y = 1; subject q: x = 2;", "x=2 y=1 min 0"},
		{"var x; var y >= 3; subject r: x = 2; subject q: y <= 1;", "none"},
		// a column that stands still goes ahead of one that no row has
		{"var x >= 0; var y >= 1 <= 1; minimize z: x + y;", "y=1 x=0 min 1"},
		// one that no row has ahead of rows that bounds decide
		{"var x >= 0; var y >= 0; var u >= 0; minimize z: u; subject r: x + y <= 0;", "u=0 x=0 y=0 min 0"},
		// these ahead of pairs
		{"var u; var v; var x >= 0 <= 1; var y >= 0 <= 1; minimize z: u; subject p: u + v = 3; subject r: x + y <= 0;", "x=0 y=0 v=3,-1u min 0 u:..*1"},
		{"var x >= 0; var y >= 0; minimize z: x; subject p: x + y = 0;", "x=0 y=0 min 0"},
		// a pair whose column has gone is bounds
		{"var x; var y; var u; minimize z: u; subject r: x + y = 3; subject q: y = 1; subject s: x - u = 5;", "y=1 x=2 u=-3 min -3"},
		// columns that no row has any more go as soon as their rows have
		{"var x >= 0 <= 1; var y >= 0 <= 1; var u; var v; minimize z: x + y + u; subject r: x + y <= 2; subject p: u + v = 3;", "x=0 y=0 v=3,-1u min 0 u:..*1"},
		// the first row of two
		{"var x >= 0; var y >= 0; var u >= 0; var v >= 0; minimize z: x; subject r: u + v <= 0; subject q: x + y <= 0;", "u=0 v=0 x=0 y=0 min 0"},
	})
}

func TestWrong(t *testing.T) {
	many := &linear.Problem{}
	for j := range api.MaxCols + 1 {
		many.Cols = append(many.Cols, linear.Col{Name: "c" + strconv.Itoa(j)})
	}
	rows := &linear.Problem{}
	for i := range api.MaxRows + 1 {
		rows.Rows = append(rows.Rows, linear.Row{Name: "r" + strconv.Itoa(i)})
	}
	one := ratio.Int(1)
	crossed := linear.Col{Name: "x", Low: linear.Bound{Has: true, At: one}, High: linear.Bound{Has: true}}
	for _, c := range []struct {
		p    *linear.Problem
		want error
	}{
		{nil, api.ErrShape},
		{many, api.ErrBound},
		{rows, api.ErrBound},
		{&linear.Problem{Cols: []linear.Col{crossed, crossed}}, api.ErrName},
		{&linear.Problem{Cols: []linear.Col{{}}}, api.ErrName},
		{&linear.Problem{Rows: []linear.Row{{Name: "r"}, {Name: "r"}}}, api.ErrName},
		{&linear.Problem{Cols: []linear.Col{crossed}, Rows: []linear.Row{{Name: "r", Terms: []linear.Term{{Col: 1, By: one}}}}}, api.ErrShape},
		{&linear.Problem{Cols: []linear.Col{crossed}, Rows: []linear.Row{{Name: "r", Terms: []linear.Term{{Col: -1, By: one}}}}}, api.ErrShape},
		{&linear.Problem{Cols: []linear.Col{crossed}, Rows: []linear.Row{{Name: "r", Terms: []linear.Term{{Col: 0}}}}}, api.ErrShape},
		{&linear.Problem{Cols: []linear.Col{crossed}, Rows: []linear.Row{{Name: "r", Terms: []linear.Term{{Col: 0, By: one}, {Col: 0, By: one}}}}}, api.ErrShape},
	} {
		if r, err := Smaller(c.p); r != nil || !errors.Is(err, c.want) {
			t.Errorf("%+v: %v, want %v", c.p, err, c.want)
		}
	}
}

func numbers(t *testing.T, text string) []ratio.R {
	t.Helper()
	list, ok := plain.Numbers(strings.Fields(text))
	if !ok {
		t.Fatal(text)
	}
	return list
}

func TestBack(t *testing.T) {
	for _, c := range []struct{ text, x, want string }{
		{"", "", ""},
		{"var x >= 3 <= 3;", "", "3"},
		{"var x; var y; minimize z: x; subject r: x + y >= 2;", "1/2 7", "1/2 7"},
		{"var x; var y; minimize z: x; subject r: x + 2 * y = 4;", "7", "7 -3/2"},
		{"var w >= 1 <= 1; var x; var y; minimize z: x + y; subject r: x + 2 * y = 4;", "7", "1 7 -3/2"},
		{"var a; var b; var c; minimize z: c; subject r: b - c = 1; subject q: a - b = 1;", "10", "10 9 8"},
		{"var a; var b; var c; minimize z: c; subject r: b - c = 1; subject q: a - b = 1;", "1/3", "1/3 -2/3 -5/3"},
		{"var a >= 6 <= 7; var b; var c; minimize z: c; subject r: b - c = 1; subject q: a - b = 1;", "", "6 5 4"},
	} {
		p := problem(t, c.text)
		x := numbers(t, c.x)
		back, err := smaller(t, p).Back(x)
		if got := strings.Join(plain.Texts(back), " "); err != nil || got != c.want {
			t.Errorf("%s: %s, %v, want %s", c.text, got, err, c.want)
		}
	}
}

func TestBackWrong(t *testing.T) {
	kept := smaller(t, problem(t, "var x; var y; minimize z: x; subject r: x + y >= 2;"))
	fixed := smaller(t, problem(t, "var x >= 1; minimize z: x;"))
	none := smaller(t, problem(t, "var x >= 1 <= 0;"))
	if !none.None || none.Small != nil || len(none.Cols) != 0 || len(none.Steps) != 0 {
		t.Errorf("%+v", none)
	}
	for _, c := range []struct {
		r *Result
		x string
	}{
		{kept, ""}, {kept, "1"}, {kept, "1 2 3"}, {fixed, "1"}, {none, ""}, {none, "1"}, {nil, ""}, {nil, "1"},
	} {
		if back, err := c.r.Back(numbers(t, c.x)); back != nil || !errors.Is(err, api.ErrShape) {
			t.Errorf("%+v, %s: %v, %v", c.r, c.x, back, err)
		}
	}
	// results that were written into are no reason to fall over
	for _, col := range []int{-1, 2, 1 << 60} {
		kept.Cols[1] = col
		if back, err := kept.Back(numbers(t, "1 2")); back != nil || !errors.Is(err, api.ErrShape) {
			t.Errorf("%d: %v, %v", col, back, err)
		}
		fixed.Steps[0].Col = col
		if back, err := fixed.Back(nil); back != nil || !errors.Is(err, api.ErrShape) {
			t.Errorf("%d: %v, %v", col, back, err)
		}
	}
}

// TestMemory: what is given is only read, and what is answered is nobody else's (P4).
func TestMemory(t *testing.T) {
	const text = "var x; var y >= 0; var u; var v <= 7; minimize z: x + u; subject r: x + 2 * y = 4; subject q: y + u + v <= 3; subject s: u <= 9; subject o: u + v >= -4;"
	p := problem(t, text)
	r := smaller(t, p)
	want := told(problem(t, text), r)
	if want != "y=2,-1/2x min 0 x:..4*1 u:..9*1 v:..7*0 q:..1,-1/2x,1u,1v o:-4..,1u,1v" {
		t.Fatal(want)
	}
	if !reflect.DeepEqual(p, problem(t, text)) {
		t.Fatalf("%+v has changed", p)
	}
	x := numbers(t, "1 2 3")
	back, _ := r.Back(x)
	scrawl := func(p *linear.Problem) {
		for j := range p.Cols {
			p.Cols[j] = linear.Col{Name: "?"}
		}
		for i := range p.Rows {
			for k := range p.Rows[i].Terms[:cap(p.Rows[i].Terms)] {
				p.Rows[i].Terms[:cap(p.Rows[i].Terms)][k] = linear.Term{Col: 1 << 40}
			}
			p.Rows[i] = linear.Row{Name: "?"}
		}
	}
	scrawl(p)
	if got := told(problem(t, text), r); got != want {
		t.Errorf("%s, want %s", got, want)
	}
	for i := range back {
		back[i] = ratio.Int(99)
	}
	if got := strings.Join(plain.Texts(x), " "); got != "1 2 3" {
		t.Errorf("the point is %s", got)
	}
	again, err := r.Back(x)
	if got := strings.Join(plain.Texts(again), " "); err != nil || got != "1 3/2 2 3" {
		t.Errorf("%s, %v", got, err)
	}
	for i := range x {
		x[i] = ratio.Int(99)
	}
	if got := strings.Join(plain.Texts(again), " "); got != "1 3/2 2 3" {
		t.Errorf("%s", got)
	}
	p = problem(t, text)
	r = smaller(t, p)
	r.Steps[0].Terms[0] = linear.Term{}
	r.Cols[0] = 3
	scrawl(r.Small)
	if !reflect.DeepEqual(p, problem(t, text)) {
		t.Errorf("%+v has changed", p)
	}
	if got := told(p, smaller(t, p)); got != want {
		t.Errorf("%s, want %s", got, want)
	}
}

// TestChain: as many columns as there may be, each tied to the next; all follow from the first one.
func TestChain(t *testing.T) {
	p := &linear.Problem{Shift: ratio.Int(1)}
	want := []ratio.R{ratio.Int(5)}
	third, _ := ratio.Int(1).Quo(ratio.Int(3))
	for j := range api.MaxCols {
		p.Cols = append(p.Cols, linear.Col{Name: "c" + strconv.Itoa(j), Cost: ratio.Int(int64(j + 1))})
		if j > 0 {
			// a third of the one ahead, and 2
			side := linear.Bound{Has: true, At: ratio.Int(2)}
			p.Rows = append(p.Rows, linear.Row{Name: "r" + strconv.Itoa(j), Low: side, High: side, Terms: []linear.Term{{Col: j - 1, By: third.Neg()}, {Col: j, By: ratio.Int(1)}}})
			want = append(want, want[j-1].Mul(third).Add(ratio.Int(2)))
		}
	}
	r := smaller(t, p)
	if r.None || !slices.Equal(r.Cols, []int{0}) || len(r.Steps) != api.MaxCols-1 || len(r.Small.Rows) != 0 {
		t.Fatalf("%+v", r.Cols)
	}
	back, err := r.Back(want[:1])
	if err != nil || !slices.Equal(plain.Texts(back), plain.Texts(want)) {
		t.Fatalf("%v, %v", plain.Texts(back), err)
	}
	small, _ := linear.Value(r.Small, want[:1])
	value, _ := linear.Value(p, want)
	if small.Cmp(value) != 0 {
		t.Errorf("%s, want %s", small.Text(), value.Text())
	}
}
