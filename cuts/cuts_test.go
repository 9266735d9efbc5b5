package cuts

import (
	"errors"
	"reflect"
	"slices"
	"strconv"
	"strings"
	"testing"

	"optima/api"
	"optima/linear"
	"optima/ratio"
	"optima/tongue"
)

func problem(t *testing.T, text string) *linear.Problem {
	t.Helper()
	n, err := tongue.Read(text)
	if err != nil {
		t.Fatalf("%s: %v", text, err)
	}
	p, err := linear.Expand(n)
	if err != nil {
		t.Fatalf("%s: %v", text, err)
	}
	return p
}

func numbers(t *testing.T, text string) []ratio.R {
	t.Helper()
	var out []ratio.R
	for _, word := range strings.Fields(text) {
		r, err := ratio.Read(word)
		if err != nil {
			t.Fatalf("%s: %v", word, err)
		}
		out = append(out, r)
	}
	return out
}

func texts(list []ratio.R) []string {
	var out []string
	for _, r := range list {
		out = append(out, r.Text())
	}
	return out
}

// boundText is empty of none.
func boundText(b linear.Bound) string {
	if !b.Has {
		return ""
	}
	return b.At.Text()
}

// stands is where columns stand, a letter each.
func stands(letters string) []int {
	var out []int
	for _, r := range letters {
		out = append(out, strings.IndexRune("-BLH", r))
	}
	return out
}

// told is a row in one line, with all that must not be there.
func told(r linear.Row) string {
	out := boundText(r.Low) + ".." + boundText(r.High)
	for _, t := range r.Terms {
		out += " " + t.By.Text() + "*" + strconv.Itoa(t.Col)
	}
	if r.Name != "" || !r.Low.Has && r.Low.At.Sign() != 0 || !r.High.Has && r.High.At.Sign() != 0 {
		out += " ?"
	}
	return out
}

// answered is told, or the error, with which nothing else may come.
func answered(r linear.Row, err error) string {
	switch {
	case err == nil:
		return told(r)
	case !reflect.DeepEqual(r, linear.Row{}):
		return told(r) + " beside " + err.Error()
	case err == api.ErrOpen:
		return "open"
	case err == api.ErrShape:
		return "shape"
	case err == api.ErrBasis:
		return "basis"
	}
	return err.Error()
}

const (
	doc   = "var x integer >= 0 <= 3; var y integer >= 0 <= 3; maximize z: x + y; subject one: 2 * x + 2 * y <= 5; "
	rows  = "var x integer >= 0 <= 3; subject r: 2 * x <= 5; subject s: 3 * x >= 1; "
	mixed = "var x integer >= 0 <= 9; var w >= 2 <= 7; "
)

func TestCombine(t *testing.T) {
	for _, c := range []struct{ text, by, want string }{
		{doc, "1/2", "..2 1*0 1*1"},
		{doc, "0", "..0"},
		{doc, "1", "..5 2*0 2*1"},
		{doc, "-1", "open"},
		{"", "", "..0"},
		{"var x integer; var y;", "", "..0"},
		{"subject r: 0 <= -7/2;", "1", "..-4"},
		{"subject r: 0 <= -7/2;", "0", "..0"},

		// above 0 the high bound counts, below 0 the low one, of 0 none
		{rows, "1 0", "..5 2*0"},
		{rows, "0 -1", "..-1 -3*0"},
		{rows, "1 -1", "..4 -1*0"},
		{rows, "0 0", "..0"},
		{rows, "-1 0", "open"},
		{rows, "0 1", "open"},
		{rows, "0 1/99", "open"},
		{rows, "1/2 -1/3", "..2"}, // the column has gone
		{"var x integer >= 0; subject r: 1 <= x <= 5;", "2", "..10 2*0"},
		{"var x integer >= 0; subject r: 1 <= x <= 5;", "-2", "..-2 -2*0"},
		{"var x integer >= 0; subject r: 5 <= x <= 1;", "-2", "..-10 -2*0"}, // bounds that cross are taken as they stand
		{"var x integer >= 0; subject r: x = 5/2;", "2", "..5 2*0"},
		{"var x integer >= 0; subject r: x = 5/2;", "-2", "..-5 -2*0"},

		// a whole column leaves out what is above a whole number, at its low bound
		{"var x integer >= 0; subject r: 7/4 * x <= 5;", "1", "..5 1*0"},
		{"var x integer >= 1; subject r: 7/4 * x <= 5;", "1", "..4 1*0"},   // 17/4
		{"var x integer >= -1; subject r: 7/4 * x <= 5;", "1", "..5 1*0"},  // 23/4
		{"var x integer >= -2; subject r: 7/4 * x <= 5;", "1", "..6 1*0"},  // 13/2
		{"var x integer >= 1/3; subject r: 7/4 * x <= 5;", "1", "..4 1*0"}, // 19/4: the bound as it stands
		{"var x integer >= 0; subject r: 3/4 * x <= 5;", "1", "..5"},
		{"var x integer >= 4; subject r: 3/4 * x <= 5;", "1", "..2"},
		{"var x integer >= 1; subject r: -7/4 * x <= -5;", "1", "..-6 -2*0"}, // -5 - 1/4
		{"var x integer >= 1; subject r: -1/4 * x <= -5;", "1", "..-6 -1*0"}, // -5 - 3/4
		{"var x integer >= 1; subject r: 7/4 * x >= 5;", "-1", "..-6 -2*0"},
		{"var x integer <= 1; subject r: 7/4 * x <= 5;", "1", "open"},
		{"var x integer <= 1; subject r: -7/4 * x <= 5;", "1", "open"},
		{"var x integer; subject r: -7/4 * x <= 5;", "4", "..20 -7*0"}, // nothing is left out
		{"var x integer >= 2 <= 1; subject r: 1/2 * x <= 5;", "1", "..4"},

		// another column leaves out all, at its high bound if that is below 0
		{mixed + "subject r: x + w <= 8;", "1", "..6 1*0"},
		{mixed + "subject r: x + w <= 8;", "1/2", "..3"},
		{mixed + "subject r: x - w <= 8;", "1", "..15 1*0"},
		{mixed + "subject r: x - 1/2 * w <= 8;", "1", "..11 1*0"}, // 23/2
		{mixed + "subject r: x + 1/2 * w >= 8;", "-1", "..-5 -1*0"},
		{mixed + "subject r: x + w <= 8; subject s: w >= 3;", "1 -1", "..5 1*0"},
		{"var x integer; var w >= 0; subject r: x - w <= 8;", "1", "open"},
		{"var x integer; var w <= 0; subject r: x - w <= 8;", "1", "..8 1*0"},
		{"var x integer; var w <= 0; subject r: x + w <= 8;", "1", "open"},
		{"var x integer; var w >= 0; subject r: x + w <= 8;", "1", "..8 1*0"},
		{"var x integer; var w; subject r: x + w <= 8; subject s: x - w <= 1;", "1 1", "..9 2*0"}, // it has gone by itself
		{"var x integer; var w; subject r: x + w <= 8; subject s: x - w <= 1;", "1 0", "open"},

		// by is not one for each row
		{doc, "", "shape"},
		{doc, "1 0", "shape"},
		{rows, "-1", "shape"},
		{"", "0", "shape"},
	} {
		if got := answered(Combine(problem(t, c.text), numbers(t, c.by))); got != c.want {
			t.Errorf("%s by %s: %s, want %s", c.text, c.by, got, c.want)
		}
	}
}

// third has x at 10/3, when the others stand where they are said to.
const third = "var x integer >= 0 <= 99; var y integer >= 0 <= 9; var w >= 1 <= 9; "

func TestMixed(t *testing.T) {
	for _, c := range []struct {
		text, where string
		col         int
		want        string
	}{
		{doc, "BLH", 0, "-4.. -2*0 -2*1"},
		{doc, "LBH", 1, "-4.. -2*0 -2*1"},
		{doc, "BHH", 0, "-4.. -2*0 -2*1"}, // x is -1/2, outside of its bounds
		{"var x integer >= 0; subject r: x <= 5/2;", "BH", 0, "-4.. -2*0"},
		{"var x integer >= 0; subject r: x <= 9/4;", "BH", 0, "-8.. -4*0"},
		{"var x integer >= 0; subject r: x >= 9/4;", "BL", 0, "4.. 4/3*0"},
		{"var x integer >= 0; subject r: -1 * x <= -9/4;", "BH", 0, "4.. 4/3*0"},
		{"var x integer; subject r: x = -9/4;", "BH", 0, "4.. -4/3*0"},
		{"var x integer; subject r: x = -9/4;", "BL", 0, "-8.. 4*0"},
		{"var x integer; subject r: 3 * x >= 10;", "BL", 0, "6.. 3/2*0"},

		// a whole column at a whole number
		{third + "subject r: 3 * x + 3/4 * y <= 10;", "BLLH", 0, "-9.. -3*0"},                         // a is 1/4: 3/4
		{third + "subject r: 3 * x + 9/4 * y <= 10;", "BLLH", 0, "-9.. -3*0 -15/8*1"},                 // 3/4: 1/4 by 2/3
		{third + "subject r: 3 * x + y <= 10;", "BLLH", 0, "-9.. -3*0"},                               // 1/3: just at most f0
		{third + "subject r: 3 * x + 3 * y <= 10;", "BLLH", 0, "-9.. -3*0 -3*1"},                      // 1: nothing
		{third + "subject r: 3 * x - 3/4 * y <= 10;", "BLLH", 0, "-9.. -3*0 9/8*1"},                   // -1/4: 1/4 by 2/3
		{third + "subject r: 3 * x + 3/4 * y <= 67/4;", "BHLH", 0, "-153/8.. -3*0 -9/8*1"},            // the same, going down
		{third + "subject r: 3 * x + 3 * y <= 37; subject s: y <= 9;", "BHLHB", 0, "-36.. -3*0 -3*1"}, // rows that are Basic do not matter

		// another column
		{third + "subject r: 3 * x + 3 * w <= 13;", "BLLH", 0, "-9.. -3*0"},
		{third + "subject r: 3 * x - 3 * w <= 7;", "BLLH", 0, "-9/2.. -3*0 9/2*2"},
		{third + "subject r: 3 * x + 3 * w <= 37;", "BLHH", 0, "-99/2.. -3*0 -9/2*2"},

		// a whole column that does not stand at a whole number is as another one; so is a row's sum that does
		{"var x integer; var y integer >= 1/2; subject r: 3 * x + 3 * y <= 23/2;", "BLH", 0, "-9.. -3*0"},
		{"var x integer; var y integer >= 0; subject r: 2 * x + 2 * y <= 9; subject s: y >= 0;", "BBHL", 0, "-8.. -2*0"},

		// it is not Basic, or is whole there
		{doc, "BLH", 1, "open"},
		{doc, "LLB", 0, "open"},
		{"var x integer >= 1/2; subject r: x <= 2;", "LB", 0, "open"},
		{"var x integer >= 0; subject r: x <= 2;", "BH", 0, "open"},
		{"var x integer >= 0; subject r: 3 * x <= -12;", "BH", 0, "open"},

		// Loose, with a number and without
		{"var x integer; var w; subject r: x + w <= 5/2;", "B-H", 0, "open"},
		{"var x integer; var y integer; subject r: x + y <= 5/2;", "B-H", 0, "open"},
		{"var x integer; var w; subject r: x <= 5/2; subject s: w <= 1;", "B-HB", 0, "-4.. -2*0"},
		{"var x integer; subject r: x <= 5/2; subject s: x >= 1;", "BHB", 0, "-4.. -2*0"},

		// no whole column
		{doc, "BLH", 2, "shape"},
		{doc, "BLH", -1, "shape"},
		{doc, "BLH", 1 << 62, "shape"},
		{doc, "BLH", -1 << 63, "shape"},
		{"var x; subject r: x <= 5/2;", "BH", 0, "shape"},
		{"var x >= 0; subject r: x <= 5/2;", "LB", 0, "shape"}, // ahead of its not being Basic
		{"", "", 0, "shape"},

		// no basis, ahead of all that
		{doc, "", 0, "basis"},
		{doc, "BL", 0, "basis"},
		{doc, "BLHL", 0, "basis"},
		{doc, "BLL", 0, "basis"},
		{doc, "BBH", 0, "basis"},
		{doc, "LLH", 0, "basis"},
		{doc, "B-H", 0, "basis"},
		{doc, "BLL", 7, "basis"},
		{doc, "BLL", 1, "basis"},
		{"var x integer; subject r: 0 * x <= 1;", "BH", 0, "basis"},
	} {
		if got := answered(Mixed(problem(t, c.text), stands(c.where), c.col)); got != c.want {
			t.Errorf("%s at %s, column %d: %s, want %s", c.text, c.where, c.col, got, c.want)
		}
	}
	for _, at := range []int{-1, 4, 1 << 62, -1 << 63} {
		if got := answered(Mixed(problem(t, doc), []int{api.Basic, at, api.High}, 0)); got != "basis" {
			t.Errorf("%d: %s", at, got)
		}
	}
}

// sack has three columns to choose from, and two others, which may leave more room or less.
const sack = "var a binary; var b binary; var c binary; var u >= 1 <= 4; var v <= 2; "

func TestCover(t *testing.T) {
	for _, c := range []struct {
		text string
		row  int
		set  []int
		want string
	}{
		{sack + "subject r: 4 * a + 5 * b + 6 * c <= 10;", 0, []int{0, 1, 2}, "..2 1*0 1*1 1*2"},
		{sack + "subject r: 4 * a + 5 * b + 6 * c <= 10;", 0, []int{1, 2}, "..1 1*1 1*2"},
		{sack + "subject r: 4 * a + 5 * b + 6 * c <= 10;", 0, []int{0, 2}, "open"}, // just as much as there is room
		{sack + "subject r: 4 * a + 5 * b + 6 * c <= 10;", 0, []int{0, 1}, "open"},
		{sack + "subject q: a <= 1; subject r: 4 * a + 5 * b + 6 * c <= 10;", 1, []int{1, 2}, "..1 1*1 1*2"},
		{sack + "subject r: 4 * a <= 7/2;", 0, []int{0}, "..0 1*0"},
		{sack + "subject r: 4 * a <= -1;", 0, []int{0}, "..0 1*0"},
		{sack + "subject r: 4 * a <= 4;", 0, []int{0}, "open"},
		{sack + "subject r: 1 <= 1/2 * a + 1/3 * b <= 3/4;", 0, []int{0, 1}, "..1 1*0 1*1"},
		{sack + "subject r: 9 <= 1/2 * a + 1/3 * b <= 3/4;", 0, []int{0, 1}, "..1 1*0 1*1"}, // its low bound does not matter

		// the others, where they leave most room
		{sack + "subject r: 4 * a + 5 * b - 6 * c <= 8;", 0, []int{0, 1}, "open"},
		{sack + "subject r: 4 * a + 5 * b - 6 * c <= 2;", 0, []int{0, 1}, "..1 1*0 1*1"},
		{sack + "subject r: 4 * a + 5 * b + 6 * c <= 8;", 0, []int{0, 1}, "..1 1*0 1*1"},
		{sack + "subject r: 4 * a + 5 * b + u <= 10;", 0, []int{0, 1}, "open"},
		{sack + "subject r: 4 * a + 5 * b + u <= 39/4;", 0, []int{0, 1}, "..1 1*0 1*1"},
		{sack + "subject r: 4 * a + 5 * b - u <= 5;", 0, []int{0, 1}, "open"},
		{sack + "subject r: 4 * a + 5 * b - u <= 19/4;", 0, []int{0, 1}, "..1 1*0 1*1"},
		{sack + "subject r: 4 * a + 5 * b - v <= 7;", 0, []int{0, 1}, "open"},
		{sack + "subject r: 4 * a + 5 * b - v <= 6;", 0, []int{0, 1}, "..1 1*0 1*1"},
		{sack + "subject r: 4 * a + 5 * b + v <= 6;", 0, []int{0, 1}, "open"},
		{"var a binary; var x integer >= 5 <= 3; subject r: a + x <= 5;", 0, []int{0}, "..0 1*0"}, // bounds that cross

		// no such row, or without a high bound
		{sack + "subject r: 4 * a <= 3;", 1, []int{0}, "shape"},
		{sack + "subject r: 4 * a <= 3;", -1, []int{0}, "shape"},
		{sack + "subject r: 4 * a <= 3;", 1 << 62, []int{0}, "shape"},
		{sack + "subject r: 4 * a <= 3;", -1 << 63, []int{0}, "shape"},
		{sack, 0, []int{0}, "shape"},
		{"", 0, nil, "shape"},
		{sack + "subject r: 4 * a + v >= 3;", 0, []int{0}, "shape"}, // ahead of v's low bound

		// set is empty, does not ascend, has what is no column
		{sack + "subject r: 4 * a + 5 * b <= 8;", 0, nil, "shape"},
		{sack + "subject r: 4 * a + 5 * b + v <= 8;", 0, []int{}, "shape"},
		{sack + "subject r: 4 * a + 5 * b + v <= 8;", 0, []int{1, 0}, "shape"},
		{sack + "subject r: 4 * a + 5 * b + v <= 8;", 0, []int{1, 1}, "shape"},
		{sack + "subject r: 4 * a + 5 * b + v <= 8;", 0, []int{0, 1, 0}, "shape"},
		{sack + "subject r: 4 * a + 5 * b + v <= 8;", 0, []int{-1, 0}, "shape"},
		{sack + "subject r: 4 * a + 5 * b + v <= 8;", 0, []int{-1 << 63}, "shape"},
		{sack + "subject r: 4 * a + 5 * b + v <= 8;", 0, []int{0, 5}, "shape"},
		{sack + "subject r: 4 * a + 5 * b + v <= 8;", 0, []int{0, 1<<63 - 1}, "shape"},

		// columns that are not fit for it
		{"var a >= 0 <= 1; subject r: 2 * a <= 1;", 0, []int{0}, "shape"},
		{"var a integer >= 0; subject r: 2 * a <= 1;", 0, []int{0}, "shape"},
		{"var a integer <= 1; subject r: 2 * a <= 1;", 0, []int{0}, "shape"},
		{"var a integer >= 0 <= 2; subject r: 2 * a <= 1;", 0, []int{0}, "shape"},
		{"var a integer >= 0 <= 1/2; subject r: 2 * a <= 1;", 0, []int{0}, "shape"},
		{"var a integer >= -1 <= 1; subject r: 2 * a <= 1;", 0, []int{0}, "shape"},
		{"var a integer >= 1 <= 1; subject r: 2 * a <= 1;", 0, []int{0}, "shape"},
		{"var a integer >= 0 <= 0; subject r: 2 * a <= 1;", 0, []int{0}, "shape"},
		{"var a integer >= 0 <= 1; subject r: 2 * a <= 1;", 0, []int{0}, "..0 1*0"},
		{sack + "subject r: -4 * a <= -5;", 0, []int{0}, "shape"},

		// these, and bounds that are not there, in the row's order
		{sack + "subject r: 4 * a + v <= 3;", 0, []int{0}, "open"},
		{"var u >= 0; var a binary; subject r: 4 * a - u <= 3;", 0, []int{1}, "open"},
		{"var u >= 0; var a binary; subject r: 4 * a + u <= 3;", 0, []int{1}, "..0 1*1"},
		{"var u <= 0; var a binary; subject r: 4 * a - u <= 3;", 0, []int{1}, "..0 1*1"},
		{"var u; var a >= 0 <= 1; subject r: 4 * a + u <= 3;", 0, []int{1}, "open"},
		{"var a >= 0 <= 1; var u; subject r: 4 * a + u <= 3;", 0, []int{0}, "shape"},
		{"var u; var a binary; subject r: u - 4 * a <= 3;", 0, []int{1}, "open"},
		{"var a binary; var u; subject r: u - 4 * a <= 3;", 0, []int{0}, "shape"},

		// then what is not in the row, then whether there is room
		{sack + "subject r: 4 * a <= 3;", 0, []int{0, 1}, "shape"},
		{sack + "subject r: 4 * a <= 9;", 0, []int{0, 1}, "shape"},
		{sack + "subject r: 4 * a + v <= 9;", 0, []int{0, 1}, "open"},
		{sack + "subject r: 4 * a <= 3;", 0, []int{0, 3}, "shape"},
		{sack + "subject r: 4 * a + v <= 3;", 0, []int{0, 3}, "open"}, // u is not looked at
		{"var a binary; subject r: 0 <= -1;", 0, []int{0}, "shape"},
	} {
		if got := answered(Cover(problem(t, c.text), c.row, c.set)); got != c.want {
			t.Errorf("%s, row %d, %v: %s, want %s", c.text, c.row, c.set, got, c.want)
		}
	}
}

// TestEmptyBounds: a number that stands beside no bound counts for nothing.
func TestEmptyBounds(t *testing.T) {
	p := problem(t, "var a binary; var u; subject r: 2 * a + u <= 1; subject s: 2 * a >= 1;")
	p.Cols[1].Low.At, p.Cols[1].High.At, p.Rows[0].Low.At, p.Rows[1].High.At = ratio.Int(9), ratio.Int(9), ratio.Int(9), ratio.Int(1)
	if got := answered(Combine(p, numbers(t, "1 0"))); got != "open" {
		t.Errorf("u: %s", got)
	}
	if got := answered(Combine(p, numbers(t, "0 1"))); got != "open" {
		t.Errorf("s: %s", got)
	}
	if got := answered(Combine(p, numbers(t, "0 -1"))); got != "..-1 -2*0" {
		t.Errorf("s: %s", got)
	}
	if got := answered(Cover(p, 0, []int{0})); got != "open" {
		t.Errorf("cover of r: %s", got)
	}
	if got := answered(Cover(p, 1, []int{0})); got != "shape" {
		t.Errorf("cover of s: %s", got)
	}
	p.Cols[0].High.Has = false
	if got := answered(Cover(p, 0, []int{0})); got != "shape" {
		t.Errorf("without a high bound: %s", got)
	}
}

func TestWrongProblems(t *testing.T) {
	many := &linear.Problem{}
	for i := range api.MaxCols + 1 {
		many.Cols = append(many.Cols, linear.Col{Name: "c" + strconv.Itoa(i)})
	}
	col := linear.Col{Name: "x"}
	for _, c := range []struct {
		p    *linear.Problem
		want error
	}{
		{nil, api.ErrShape},
		{many, api.ErrBound},
		{&linear.Problem{Cols: []linear.Col{col, col}}, api.ErrName},
		{&linear.Problem{Cols: []linear.Col{{}}}, api.ErrName},
		{&linear.Problem{Cols: []linear.Col{col}, Rows: []linear.Row{{Name: "r", Terms: []linear.Term{{Col: 1, By: ratio.Int(1)}}}}}, api.ErrShape},
		{&linear.Problem{Cols: []linear.Col{col}, Rows: []linear.Row{{Name: "r", Terms: []linear.Term{{Col: -1, By: ratio.Int(1)}}}}}, api.ErrShape},
		{&linear.Problem{Cols: []linear.Col{col}, Rows: []linear.Row{{Name: "r", Terms: []linear.Term{{}}}}}, api.ErrShape},
	} {
		for n := range 3 {
			if r, err := Combine(c.p, make([]ratio.R, n)); !errors.Is(err, c.want) || !reflect.DeepEqual(r, linear.Row{}) {
				t.Errorf("%+v: Combine: %s, %v", c.p, told(r), err)
			}
			if r, err := Mixed(c.p, make([]int, n), n-1); !errors.Is(err, c.want) || !reflect.DeepEqual(r, linear.Row{}) {
				t.Errorf("%+v: Mixed: %s, %v", c.p, told(r), err)
			}
			if r, err := Cover(c.p, n-1, make([]int, n)); !errors.Is(err, c.want) || !reflect.DeepEqual(r, linear.Row{}) {
				t.Errorf("%+v: Cover: %s, %v", c.p, told(r), err)
			}
		}
	}
}

// TestMemory: what is handed over stays, and what is answered is nobody else's.
func TestMemory(t *testing.T) {
	p := problem(t, "var x integer >= 0 <= 1; var y integer >= 0 <= 1; maximize z: x + y; subject one: 2 * x + 2 * y <= 3;")
	twin := linear.Twin(p)
	by, where, set := numbers(t, "1/2"), stands("BLH"), []int{0, 1}
	for range 2 {
		var answers []linear.Row
		for _, want := range []string{"..1 1*0 1*1", "-2.. -2*0 -2*1", "..1 1*0 1*1"} {
			var r linear.Row
			var err error
			switch len(answers) {
			case 0:
				r, err = Combine(p, by)
			case 1:
				r, err = Mixed(p, where, 0)
			case 2:
				r, err = Cover(p, 0, set)
			}
			if got := answered(r, err); got != want {
				t.Fatalf("%s, want %s", got, want)
			}
			answers = append(answers, r)
		}
		for _, r := range answers {
			for i := range r.Terms {
				r.Terms[i] = linear.Term{Col: 9, By: ratio.Int(9)}
			}
		}
	}
	if !reflect.DeepEqual(p, twin) || by[0].Text() != "1/2" || !slices.Equal(where, stands("BLH")) || !slices.Equal(set, []int{0, 1}) {
		t.Errorf("%+v, %v, %v, %v", p, texts(by), where, set)
	}
}
