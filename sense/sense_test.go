package sense

import (
	"errors"
	"slices"
	"strconv"
	"strings"
	"testing"

	"optima/api"
	"optima/linear"
	"optima/plain"
	"optima/ratio"
	"optima/tongue"
)

// first is the problem of the document's examples: 17 is its most, at 4 and 1.
const first = "var x >= 0 <= 4; var y >= 0 <= 4; maximize z: 3 * x + 5 * y; subject one: x + 2 * y <= 6;"

func problem(t *testing.T, text string) *linear.Problem {
	t.Helper()
	n, err := tongue.Read(text)
	if err != nil {
		t.Fatalf("%s: %v", text, err)
	}
	p, err := linear.Expand(n)
	if err != nil {
		t.Fatalf("%s: %v", text, err)
	}
	return p
}

// stands is where columns stand, told by one letter each.
func stands(text string) []int {
	var out []int
	for _, letter := range text {
		out = append(out, strings.IndexRune("-BLH", letter))
	}
	return out
}

func told(list []Range) string {
	var out []string
	for _, r := range list {
		out = append(out, plain.BoundText(r.Low)+".."+plain.BoundText(r.High))
	}
	return strings.Join(out, " ")
}

func TestGood(t *testing.T) {
	for _, c := range []struct {
		text, where string
		good        bool
	}{
		{first, "HBH", true},
		{first, "LBH", false}, // x pays
		{first, "HHB", false}, // the sum is above its bound
		{first, "BHH", false}, // x is below its bound
		{first, "LLB", false}, // all pay
		{first, "BLH", false}, // x is above its bound
		{"", "", true},
		{"minimize z: 5;", "", true},

		// the right side, of the least and of the most
		{"var x >= 0 <= 1; minimize z: x;", "L", true},
		{"var x >= 0 <= 1; minimize z: x;", "H", false},
		{"var x >= 0 <= 1; minimize z: -x;", "L", false},
		{"var x >= 0 <= 1; minimize z: -x;", "H", true},
		{"var x >= 0 <= 1; maximize z: x;", "L", false},
		{"var x >= 0 <= 1; maximize z: x;", "H", true},
		{"var x >= 0 <= 1; maximize z: -x;", "L", true},
		{"var x >= 0 <= 1; maximize z: -x;", "H", false},
		{"var x >= 0 <= 1; maximize z: 0;", "L", true},
		{"var x >= 0 <= 1; maximize z: 0;", "H", true},
		{"var x >= 0; maximize z: x;", "L", false}, // also where there is no other bound
		{"var x <= 0; minimize z: x;", "H", false},

		// Loose: 0
		{"var x; minimize z: x;", "-", false},
		{"var x; minimize z: -x;", "-", false},
		{"var x; maximize z: x;", "-", false},
		{"var x; maximize z: -1/9 * x;", "-", false},
		{"var x; maximize z: 1;", "-", true},

		// bounds that are the same: any
		{"var x >= 1 <= 1; minimize z: x;", "L", true},
		{"var x >= 1 <= 1; minimize z: x;", "H", true},
		{"var x >= 1 <= 1; minimize z: -x;", "L", true},
		{"var x >= 1 <= 1; maximize z: 3 * x;", "L", true},
		{"var x; maximize z: x; subject r: x = 2;", "BL", true},
		{"var x; maximize z: x; subject r: x = 2;", "BH", true},
		{"var x; minimize z: x; subject r: x = 2;", "BL", true},
		{"var x; minimize z: x; subject r: x = 2;", "BH", true},

		// the sides of rows
		{"var x; maximize z: x; subject r: 1 <= x <= 2;", "BH", true},
		{"var x; maximize z: x; subject r: 1 <= x <= 2;", "BL", false},
		{"var x; minimize z: x; subject r: 1 <= x <= 2;", "BL", true},
		{"var x; minimize z: x; subject r: 1 <= x <= 2;", "BH", false},
		{"var x; maximize z: x; subject r: -2 <= -1 * x <= -1;", "BL", true}, // its price is -1
		{"var x; maximize z: x; subject r: -2 <= -1 * x <= -1;", "BH", false},

		// within the bounds, up to them and not beyond
		{"var x <= 2; maximize z: x; subject r: x <= 2;", "BH", true},
		{"var x >= 2; maximize z: x; subject r: x <= 2;", "BH", true},
		{"var x <= 1; maximize z: x; subject r: x <= 2;", "BH", false},
		{"var x >= 3; maximize z: x; subject r: x <= 2;", "BH", false},
		{"var x <= 2; maximize z: x; subject r: x <= 2;", "HB", true},
		{"var x <= 2; maximize z: x; subject r: x <= 1;", "HB", false},
		{"var x <= 2; maximize z: x; subject r: x >= 2;", "HB", true},
		{"var x <= 2; maximize z: x; subject r: x >= 3;", "HB", false},

		// bounds that cross hold nothing, whether it is Basic or not
		{"var x >= 1 <= 0; minimize z: x;", "L", false},
		{"var x >= 1 <= 0; minimize z: -x;", "H", false},
		{"var x >= 1 <= 0; minimize z: 0;", "L", false},
		{"var x; subject r: 2 <= x <= 1;", "BL", false},
		{"var x; subject r: 2 <= x <= 1;", "BH", false},
		{"var x; subject r: 2 <= x <= 1;", "-B", false},

		{"var x integer; maximize z: x; subject r: 2 * x <= 1;", "BH", true}, // as others
		{"subject r: 0 <= 0;", "B", true},
		{"subject r: 0 >= 1;", "B", false},
	} {
		ok, err := Good(problem(t, c.text), stands(c.where))
		if err != nil || ok != c.good {
			t.Errorf("%s at %s: %v, %v", c.text, c.where, ok, err)
		}
	}
}

func TestRanges(t *testing.T) {
	for _, c := range []struct{ text, where, costs, sides string }{
		{first, "HBH", "5/2.. 0..6", "-2..6 .. 4..12"},
		{"", "", "", ""},
		{"subject r: 0 <= 0;", "B", "", ".."},

		// a column by itself: its side of 0
		{"var x >= 0 <= 1; minimize z: x;", "L", "0..", ".."},
		{"var x >= 0 <= 1; minimize z: -x;", "H", "..0", ".."},
		{"var x >= 0 <= 1; maximize z: -x;", "L", "..0", ".."},
		{"var x >= 0 <= 1; maximize z: x;", "H", "0..", ".."},
		{"var x; maximize z: 1;", "-", "0..0", ".."},
		{"var x >= 1 <= 1; maximize z: 7 * x;", "L", "..", ".."},

		// a Basic one is felt by what it is made of, as that stands
		{"var x; maximize z: x; subject r: x <= 2;", "BH", "0..", ".. .."},
		{"var x; maximize z: x; subject r: x = 2;", "BH", "..", ".. .."},
		{"var x; minimize z: x; subject r: 2 * x >= 2;", "BL", "0..", ".. .."},
		{"var x; maximize z: -x; subject r: -2 * x <= 2;", "BH", "..0", ".. .."},
		{"var x; var y; maximize z: x + y; subject r: x + y <= 2;", "B-H", "1..1 1..1", ".. .. .."},
		{"var x; var y; maximize z: x; subject r: x + y <= 2; subject s: y = 3;", "BBHL", "0.. ..", ".. .. .. .."}, // s stands still

		// y pays at first the more, but not so much
		{"var x >= 0; var y >= 0; maximize z: 3 * x + 5 * y; subject r: x + 2 * y <= 6;", "BLH", "5/2.. ..6", ".. ..3 0.."},
		{"var x >= 0; var y >= 0; minimize z: 3 * x + 5 * y; subject r: x + 2 * y >= 6;", "LBL", "5/2.. 0..6", "..6 .. 0.."},

		// where it may stand: its own bounds do not matter
		{"var x <= 2; maximize z: x; subject r: -1 <= x <= 9;", "HB", "0..", "-1..9 .."},
		{"var x <= 2; maximize z: x; subject r: -1 <= -1/2 * x <= 9;", "HB", "0..", "-18..2 .."},
		{"var x <= 2; maximize z: x; subject r: x <= 2;", "HB", "0..", "..2 .."},
		{"var x <= 2; maximize z: x; subject r: x <= 2;", "BH", "0..", ".. ..2"},
		{"var x >= 1 <= 1; subject r: 2 * x <= 9; subject s: 3 * x >= -1;", "LBB", "..", "-1/3..9/2 .. .."},
		{"var x; subject r: 2 * x <= 9; subject s: 3 * x >= -1;", "-BB", "0..0", "-1/3..9/2 .. .."},

		// the tightest of many
		{"var x >= 0; var y >= 0; maximize z: x + y; subject a: 2 * x + y <= 4; subject b: x + 2 * y <= 4;", "BBHH", "1/2..2 1/2..2", ".. .. 2..8 2..8"},
		{"var x <= 2; maximize z: x; subject a: x <= 3; subject b: x <= 4; subject c: x >= -1; subject d: x >= -2;", "HBBBB", "0..", "-1..3 .. .. .. .."},
	} {
		p := problem(t, c.text)
		costs, err := Costs(p, stands(c.where))
		if err != nil || told(costs) != c.costs {
			t.Errorf("%s at %s: costs %s, %v", c.text, c.where, told(costs), err)
		}
		sides, err := Sides(p, stands(c.where))
		if err != nil || told(sides) != c.sides {
			t.Errorf("%s at %s: sides %s, %v", c.text, c.where, told(sides), err)
		}
	}
}

// TestEmptyEnds: where there is no end, no number is left over.
func TestEmptyEnds(t *testing.T) {
	p := problem(t, "var x >= 0; var y; maximize z: -3 * x; subject r: x + y <= 2;")
	p.Cols[0].High.At, p.Cols[1].Low.At, p.Cols[1].High.At, p.Rows[0].Low.At = ratio.Int(-9), ratio.Int(9), ratio.Int(-9), ratio.Int(99) // of bounds that are none
	where := stands("L-B")
	if ok, err := Good(p, where); err != nil || !ok {
		t.Fatalf("%v, %v", ok, err)
	}
	costs, err := Costs(p, where)
	if err != nil || told(costs) != "..0 0..0" {
		t.Errorf("%s, %v", told(costs), err)
	}
	sides, err := Sides(p, where)
	if err != nil || told(sides) != "..2 ..2 .." {
		t.Errorf("%s, %v", told(sides), err)
	}
	for _, r := range append(costs, sides...) {
		if !r.Low.Has && r.Low.At.Sign() != 0 || !r.High.Has && r.High.At.Sign() != 0 {
			t.Errorf("%+v", r)
		}
	}
}

// refused holds all three calls against an error that they have to tell, with nothing beside it.
func refused(t *testing.T, p *linear.Problem, where []int, good, want error) {
	t.Helper()
	if ok, err := Good(p, where); ok || !errors.Is(err, good) {
		t.Errorf("%v: Good: %v, %v, want %v", where, ok, err, good)
	}
	if list, err := Costs(p, where); list != nil || !errors.Is(err, want) {
		t.Errorf("%v: Costs: %v, %v, want %v", where, list, err, want)
	}
	if list, err := Sides(p, where); list != nil || !errors.Is(err, want) {
		t.Errorf("%v: Sides: %v, %v, want %v", where, list, err, want)
	}
}

func TestOpen(t *testing.T) {
	for _, where := range []string{"LBH", "HHB", "BHH", "LLB", "BLH"} {
		refused(t, problem(t, first), stands(where), nil, api.ErrOpen)
	}
	refused(t, problem(t, "var x >= 1 <= 0;"), stands("L"), nil, api.ErrOpen)
	refused(t, problem(t, "var x; minimize z: x;"), stands("-"), nil, api.ErrOpen)
	refused(t, problem(t, "subject r: 0 >= 1;"), stands("B"), nil, api.ErrOpen)
}

func TestNoBasis(t *testing.T) {
	for _, where := range []string{"", "B", "HB", "HBHL", "LLH", "BBH", "BBB", "-LB", "LB-", "LBL"} {
		refused(t, problem(t, first), stands(where), api.ErrBasis, api.ErrBasis)
	}
	for _, at := range []int{-1, 4, 1 << 62, -1 << 63} {
		refused(t, problem(t, first), []int{at, api.Basic, api.High}, api.ErrBasis, api.ErrBasis)
	}
	refused(t, problem(t, ""), stands("B"), api.ErrBasis, api.ErrBasis)
	refused(t, problem(t, "subject r: 0 <= 0;"), stands("H"), api.ErrBasis, api.ErrBasis)
	refused(t, problem(t, "var x >= 1 <= 0;"), stands("-"), api.ErrBasis, api.ErrBasis) // ahead of bounds that cross
}

func TestWrongProblems(t *testing.T) {
	many := &linear.Problem{}
	for i := range api.MaxCols + 1 {
		many.Cols = append(many.Cols, linear.Col{Name: "c" + strconv.Itoa(i)})
	}
	col := linear.Col{Name: "x"}
	for _, c := range []struct {
		p    *linear.Problem
		want error
	}{
		{nil, api.ErrShape},
		{many, api.ErrBound},
		{&linear.Problem{Cols: []linear.Col{col, col}}, api.ErrName},
		{&linear.Problem{Cols: []linear.Col{col}, Rows: []linear.Row{{Name: "r", Terms: []linear.Term{{Col: 1, By: ratio.Int(1)}}}}}, api.ErrShape},
	} {
		for _, where := range [][]int{nil, {}, {api.Loose}, {api.Loose, api.Basic}, {9, 9, 9}} { // told ahead of ErrBasis
			refused(t, c.p, where, c.want, c.want)
		}
	}
}

// TestMemory: what is handed over stays, and what is answered is nobody else's.
func TestMemory(t *testing.T) {
	p := problem(t, first)
	where := stands("HBH")
	for range 2 {
		costs, err := Costs(p, where)
		if err != nil || told(costs) != "5/2.. 0..6" {
			t.Fatalf("%s, %v", told(costs), err)
		}
		sides, err := Sides(p, where)
		if err != nil || told(sides) != "-2..6 .. 4..12" {
			t.Fatalf("%s, %v", told(sides), err)
		}
		for _, list := range [][]Range{costs, sides} {
			for i := range list {
				list[i] = Range{High: linear.Bound{Has: true, At: ratio.Int(99)}}
			}
		}
		if told(costs) == told(sides) {
			t.Error("lists of one length")
		}
	}
	if !slices.Equal(where, stands("HBH")) {
		t.Errorf("%v is not as it was", where)
	}
}
