package simplex

import (
	"errors"
	"slices"
	"strconv"
	"strings"
	"testing"

	"optima/api"
	"optima/linear"
	"optima/ratio"
	"optima/tongue"
	"optima/witness"
)

// first is the problem of the document's examples: 17 is its most, at 4 and 1.
const first = "var x >= 0 <= 4; var y >= 0 <= 4; maximize z: 3 * x + 5 * y; subject one: x + 2 * y <= 6;"

func problem(t *testing.T, text string) *linear.Problem {
	t.Helper()
	n, err := tongue.Read(text)
	if err != nil {
		t.Fatalf("%s: %v", text, err)
	}
	p, err := linear.Expand(n)
	if err != nil {
		t.Fatalf("%s: %v", text, err)
	}
	return p
}

func texts(list []ratio.R) string {
	var out []string
	for _, r := range list {
		out = append(out, r.Text())
	}
	return strings.Join(out, " ")
}

// letters tells where columns stand by one letter each.
func letters(where []int) string {
	out := ""
	for _, at := range where {
		if at < 0 || at > 3 {
			return "?"
		}
		out += "-BLH"[at : at+1]
	}
	return out
}

// stands is the opposite of letters.
func stands(text string) []int {
	var out []int
	for _, letter := range text {
		out = append(out, strings.IndexRune("-BLH", letter))
	}
	return out
}

// shown holds a claim and its basis against what they have to be: the claim shows itself, the basis is one, and of a best point both say the same.
func shown(t *testing.T, p *linear.Problem, c witness.Claim, where []int) {
	t.Helper()
	if ok, err := witness.Check(p, c); !ok || err != nil {
		t.Fatalf("%+v: the claim %d at %s, by %s, along %s: %v, %v", p, c.Kind, texts(c.X), texts(c.Y), texts(c.Ray), ok, err)
	}
	f, err := FrameOf(p, where)
	if err != nil {
		t.Fatalf("%+v: %s: %v", p, letters(where), err)
	}
	if c.Kind != api.Best {
		return
	}
	if cols := len(p.Cols); texts(f.X[:cols]) != texts(c.X) || texts(f.Cost[cols:]) != texts(c.Y) {
		t.Fatalf("%+v: %s says %s, %s, the claim %s, %s", p, letters(where), texts(f.X[:cols]), texts(f.Cost[cols:]), texts(c.X), texts(c.Y))
	}
	for row, y := range c.Y {
		if where[len(p.Cols)+row] == api.Basic && y.Sign() != 0 {
			t.Fatalf("%+v: %s, but row %d has the price %s", p, letters(where), row, y.Text())
		}
	}
}

func TestSolve(t *testing.T) {
	for _, c := range []struct {
		text  string
		kind  int
		value string
	}{
		{first, api.Best, "17"},
		{"", api.Best, "0"},
		{"minimize z: 7/2;", api.Best, "7/2"},
		{"maximize z: -7/2;", api.Best, "-7/2"},
		{"subject r: 0 <= 0;", api.Best, "0"},
		{"subject r: 0 >= 1;", api.None, "0"},
		{"subject r: 0 <= -1;", api.None, "0"},
		{"subject r: 0 = 1/7;", api.None, "0"},
		{"var x >= 0 <= -1; minimize z: x;", api.None, "0"}, // nothing but the bounds is needed
		{"var x; subject r: 3 <= x <= 2;", api.None, "0"},
		{"var x >= 0 <= -1; var y; maximize z: y;", api.None, "0"},
		{"var x; minimize z: x;", api.Endless, "0"},
		{"var x; maximize z: x;", api.Endless, "0"},
		{"var x; maximize z: 5;", api.Best, "5"},
		{"var x >= 2; minimize z: x;", api.Best, "2"},
		{"var x >= 2; maximize z: x;", api.Endless, "0"},
		{"var x <= 2; maximize z: x;", api.Best, "2"},
		{"var x <= 2; minimize z: x;", api.Endless, "0"},
		{"var x >= 2 <= 2; maximize z: -x;", api.Best, "-2"},
		{"var x >= -3 <= 5; maximize z: 1/2 * x + 1;", api.Best, "7/2"},
		{"var x >= -3 <= 5; minimize z: 1/2 * x + 1;", api.Best, "-1/2"},
		{"var x; minimize z: x; subject r: x >= 1/3;", api.Best, "1/3"},
		{"var x; maximize z: x; subject r: 3 * x = 7;", api.Best, "7/3"},
		{"var x; maximize z: x; subject r: -2 * x >= -7;", api.Best, "7/2"},
		{"var x; var y; maximize z: x + y; subject r: x + y <= 4;", api.Best, "4"},
		{"var x; var y; maximize z: x + 2 * y; subject r: x + y <= 4;", api.Endless, "0"},
		{"var x; var y; maximize z: x - y; subject r: x - y = 4;", api.Best, "4"},
		{"var x; var y; maximize z: x; subject r: x - y = 4;", api.Endless, "0"},
		{"var x; subject a: x <= 1; subject b: x >= 2;", api.None, "0"},
		{"var x; subject a: x <= 2; subject b: x >= 2;", api.Best, "0"},
		{"var x; var y; subject a: x + y = 1; subject b: 2 * x + 2 * y = 3;", api.None, "0"},
		{"var x; var y; maximize z: x + y; subject a: x + y = 1; subject b: 2 * x + 2 * y = 2;", api.Best, "1"}, // one row too many
		{"var x >= 0; var y >= 0; maximize z: x + y; subject a: x + y >= 3;", api.Endless, "0"},
		{"var x >= 0; var y >= 0; minimize z: x + 3 * y; subject a: x + y >= 3; subject b: x <= 1;", api.Best, "7"},
		{"var x integer >= 0 <= 3; var y integer >= 0 <= 3; maximize z: x + y; subject r: 2 * x + 2 * y <= 5;", api.Best, "5/2"}, // as others
		{"var x integer; subject r: 1/3 <= x <= 2/3;", api.Best, "0"},
		{"var x; var y; maximize z: y; subject r: x <= 3;", api.Endless, "0"}, // y stands in no row
		{"var x >= 0; var y; maximize z: y - x; subject r: x <= -3;", api.None, "0"},
	} {
		p := problem(t, c.text)
		claim, where, err := Solve(p)
		if err != nil || claim.Kind != c.kind || claim.Value.Text() != c.value {
			t.Errorf("%s: %d, %s, %v", c.text, claim.Kind, claim.Value.Text(), err)
			continue
		}
		shown(t, p, claim, where)
	}
}

func TestFirst(t *testing.T) {
	p := problem(t, first)
	c, where, err := Solve(p)
	if err != nil || texts(c.X) != "4 1" || texts(c.Y) != "5/2" || len(c.Ray) != 0 || letters(where) != "HBH" {
		t.Errorf("%s, %s, %s, %s, %v", texts(c.X), texts(c.Y), texts(c.Ray), letters(where), err)
	}
}

// TestFromEach: whatever basis one sets out from, the same is the best.
func TestFromEach(t *testing.T) {
	for _, c := range []struct {
		text  string
		kind  int
		value string
	}{
		{first, api.Best, "17"},
		{"var x >= 0 <= 4; var y >= 0 <= 4; minimize z: 3 * x - 5 * y + 1; subject one: 1 <= x + 2 * y <= 6;", api.Best, "-14"},
		{"var x >= 0 <= 4; var y >= 0 <= 4; maximize z: x; subject one: x + 2 * y >= 13;", api.None, "0"},
		{"var x >= 0; var y >= 0 <= 4; maximize z: 3 * x + 5 * y; subject one: x + 2 * y >= 1;", api.Endless, "0"},
		{"var x; var y; maximize z: x + y; subject a: x - y <= 4; subject b: y <= 3;", api.Best, "10"},
		{"var x; var y; maximize z: x + y; subject a: x - y <= 4; subject b: x + y >= 3;", api.Endless, "0"},
		{"var x; var y; maximize z: x + y; subject a: x + y <= 4; subject b: x + y >= 5;", api.None, "0"},
		{"var x >= 0 <= 0; var y <= 2; maximize z: x + y; subject a: x + y = 1; subject b: 1/2 * x + y <= 3;", api.Best, "1"},
		{"var x >= 1 <= 0; var y <= 2; maximize z: x + y; subject a: x + y <= 4;", api.None, "0"},
	} {
		p := problem(t, c.text)
		bases := 0
		for _, where := range everywhere(len(p.Cols) + len(p.Rows)) {
			kept := slices.Clone(where)
			claim, last, err := From(p, where)
			if !slices.Equal(where, kept) {
				t.Fatalf("%s: %v is changed into %v", c.text, kept, where)
			}
			if err != nil {
				continue
			}
			bases++
			if claim.Kind != c.kind || claim.Value.Text() != c.value {
				t.Errorf("%s from %s: %d, %s", c.text, letters(where), claim.Kind, claim.Value.Text())
			}
			shown(t, p, claim, last)
		}
		if bases < 3 {
			t.Errorf("%s: %d bases", c.text, bases)
		}
	}
}

// everywhere is each list of that length of where columns may stand, and of numbers beside these.
func everywhere(length int) [][]int {
	out := [][]int{nil}
	for range length {
		var longer [][]int
		for _, where := range out {
			for at := -1; at <= 4; at++ {
				longer = append(longer, append(where[:len(where):len(where)], at))
			}
		}
		out = longer
	}
	return out
}

// TestGoodStays: a basis that is the best one already is told again.
func TestGoodStays(t *testing.T) {
	for _, text := range []string{
		first,
		"var x; var y; maximize z: x + y; subject a: x - y <= 4; subject b: y <= 3;",
		"var x >= 0; var y >= 0; minimize z: x + 3 * y; subject a: x + y >= 3; subject b: x <= 1;",
	} {
		p := problem(t, text)
		_, where, err := Solve(p)
		if err != nil {
			t.Fatal(err)
		}
		if _, again, err := From(p, where); err != nil || !slices.Equal(where, again) {
			t.Errorf("%s: %s, %s, %v", text, letters(where), letters(again), err)
		}
	}
}

func TestWrongProblems(t *testing.T) {
	many := &linear.Problem{}
	for i := range api.MaxCols + 1 {
		many.Cols = append(many.Cols, linear.Col{Name: "c" + strconv.Itoa(i)})
	}
	col := linear.Col{Name: "x"}
	for _, c := range []struct {
		p    *linear.Problem
		want error
	}{
		{nil, api.ErrShape},
		{many, api.ErrBound},
		{&linear.Problem{Cols: []linear.Col{col, col}}, api.ErrName},
		{&linear.Problem{Cols: []linear.Col{{}}}, api.ErrName},
		{&linear.Problem{Cols: []linear.Col{col}, Rows: []linear.Row{{Name: "r", Terms: []linear.Term{{Col: 1, By: ratio.Int(1)}}}}}, api.ErrShape},
		{&linear.Problem{Cols: []linear.Col{col}, Rows: []linear.Row{{Name: "r", Terms: []linear.Term{{Col: -1, By: ratio.Int(1)}}}}}, api.ErrShape},
		{&linear.Problem{Cols: []linear.Col{col}, Rows: []linear.Row{{Name: "r", Terms: []linear.Term{{}}}}}, api.ErrShape},
	} {
		claim, where, err := Solve(c.p)
		wrong(t, "Solve", claim, where, err, c.want)
		for _, at := range [][]int{nil, {}, {api.Loose}, {api.Loose, api.Basic}, {9, 9, 9}} { // told ahead of ErrBasis
			claim, where, err = From(c.p, at)
			wrong(t, "From", claim, where, err, c.want)
			if f, err := FrameOf(c.p, at); f != nil || !errors.Is(err, c.want) {
				t.Errorf("FrameOf: %v, %v, want %v", f, err, c.want)
			}
		}
	}
}

// wrong is how an error has to be told: with nothing beside it.
func wrong(t *testing.T, call string, c witness.Claim, where []int, err, want error) {
	t.Helper()
	empty := c.Kind == 0 && c.X == nil && c.Y == nil && c.Ray == nil && c.Value.Sign() == 0
	if !empty || where != nil || !errors.Is(err, want) {
		t.Errorf("%s: %+v, %v, %v, want %v", call, c, where, err, want)
	}
}

func TestNoBasis(t *testing.T) {
	const loose = "var x >= 0; var y <= 3; var w; subject a: x + y + w >= 1; subject b: 2 * x + 2 * y <= 9; subject c: 0 * x <= 5;"
	for _, c := range []struct{ text, where string }{
		{first, ""}, {first, "B"}, {first, "LB"}, {first, "LBHL"}, {first, "LLBB"}, // not one for each column
		{first, "LLH"}, {first, "BBH"}, {first, "BBB"}, {first, "LBB"}, // not as many as rows
		{first, "-LB"}, {first, "L-B"}, {first, "LB-"}, // bounds, but Loose
		{first, "LBL"}, // the row has no low bound
		{loose, "HL-BBB"}, {loose, "LL-BBB"}, {loose, "LHLBBB"}, {loose, "LHHBBB"},
		{loose, "LH-BBH"}, {loose, "LB-BBB"},
		{loose, "BBBLHH"}, // c has no terms: its sum does not follow from others but by itself
		{loose, "LBBLHL"}, // c has no low bound
		{loose, "BB-LHB"}, // b is twice a, but for w
		{loose, "BHBBHH"},
		{"", "B"}, {"", "-"},
		{"var x;", "B"}, {"var x;", "L"}, {"var x;", "H"}, {"var x;", ""},
		{"subject r: 0 <= 0;", "H"}, {"subject r: 0 <= 0;", ""}, {"subject r: 0 <= 0;", "-"},
	} {
		p := problem(t, c.text)
		claim, where, err := From(p, stands(c.where))
		wrong(t, c.text+c.where, claim, where, err, api.ErrBasis)
		if f, err := FrameOf(p, stands(c.where)); f != nil || !errors.Is(err, api.ErrBasis) {
			t.Errorf("%s, %s: %v, %v", c.text, c.where, f, err)
		}
	}
	p := problem(t, first)
	for _, at := range []int{-1, 4, 1 << 62, -1 << 63} { // no places at all
		for col := range 3 {
			where := stands("LBH")
			where[col] = at
			if f, err := FrameOf(p, where); f != nil || !errors.Is(err, api.ErrBasis) {
				t.Errorf("%v: %v, %v", where, f, err)
			}
		}
	}
}

// TestCrossed: where bounds cross, ErrBasis is told all the same, and None of what is a basis.
func TestCrossed(t *testing.T) {
	p := problem(t, "var x >= 3 <= 1; var y; maximize z: y; subject r: x + y <= 2;")
	for _, where := range []string{"L-B", "H-B", "B-H", "LBH", "HBH"} {
		c, last, err := From(p, stands(where))
		if err != nil || c.Kind != api.None || len(c.Y) != 0 {
			t.Fatalf("%s: %+v, %v", where, c, err)
		}
		shown(t, p, c, last)
	}
	for _, where := range []string{"", "--B", "LLB", "LBB", "LBL"} {
		if _, last, err := From(p, stands(where)); !errors.Is(err, api.ErrBasis) || last != nil {
			t.Errorf("%s: %v, %v", where, last, err)
		}
	}
}

// TestUnusedBounds: the number of a bound that is none does not matter.
func TestUnusedBounds(t *testing.T) {
	p := problem(t, "var x; var y >= 0; maximize z: x - y; subject r: x - 2 * y <= 4;")
	p.Cols[0].Low.At, p.Cols[0].High.At, p.Cols[1].High.At, p.Rows[0].Low.At = ratio.Int(9), ratio.Int(-9), ratio.Int(-1), ratio.Int(77)
	c, where, err := Solve(p)
	if err != nil || c.Kind != api.Endless {
		t.Fatalf("%+v, %v", c, err)
	}
	shown(t, p, c, where)
	f, err := FrameOf(p, stands("-LB"))
	if err != nil || texts(f.X) != "0 0 0" {
		t.Errorf("%+v, %v", f, err)
	}
}

// TestMemory: what is handed over stays, and what is answered is nobody else's.
func TestMemory(t *testing.T) {
	p := problem(t, "var x >= 0 <= 4; var y >= 0 <= 4; maximize z: 3 * x + 5 * y; subject one: x + 2 * y <= 6; subject two: x - y <= 3;")
	kept := linear.Twin(p)
	at := stands("LLBB")
	c, where, err := From(p, at)
	if err != nil {
		t.Fatal(err)
	}
	f, err := FrameOf(p, where)
	if err != nil {
		t.Fatal(err)
	}
	again, _, _ := Solve(p)
	told := texts(again.X) + texts(again.Y)
	spoil := func(list []ratio.R) {
		for i := range list {
			list[i] = ratio.Int(99)
		}
		_ = append(list, ratio.Int(98)) // into room behind it, if it has any
	}
	x, cost := texts(f.X), texts(f.Cost)
	for _, list := range append(f.By, c.X, c.Y) {
		spoil(list)
	}
	if texts(f.X) != x || texts(f.Cost) != cost {
		t.Errorf("lists of one answer share memory: %s, %s", texts(f.X), texts(f.Cost))
	}
	spoil(f.X)
	if texts(f.Cost) != cost {
		t.Errorf("lists of one answer share memory: %s", texts(f.Cost))
	}
	for i := range where {
		where[i] = 7
	}
	if letters(at) != "LLBB" || told != texts(again.X)+texts(again.Y) {
		t.Error("what was handed over, or another answer, is changed")
	}
	same(t, p, kept)
}

// same is whether a problem is as it was.
func same(t *testing.T, p, kept *linear.Problem) {
	t.Helper()
	for i, col := range p.Cols {
		if col.Name != kept.Cols[i].Name || col.Cost.Cmp(kept.Cols[i].Cost) != 0 || col.Low.At.Cmp(kept.Cols[i].Low.At) != 0 || col.High.At.Cmp(kept.Cols[i].High.At) != 0 {
			t.Errorf("column %d is changed", i)
		}
	}
	for i, row := range p.Rows {
		for k, term := range row.Terms {
			if term.Col != kept.Rows[i].Terms[k].Col || term.By.Cmp(kept.Rows[i].Terms[k].By) != 0 {
				t.Errorf("row %d is changed", i)
			}
		}
	}
}
