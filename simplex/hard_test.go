package simplex

import (
	"strconv"
	"testing"

	"optima/api"
	"optima/linear"
	"optima/ratio"
)

// TestCircles: problems known for steps that gain nothing and lead back to where they set out.
func TestCircles(t *testing.T) {
	for _, c := range []struct {
		text  string
		kind  int
		value string
	}{
		{"var a >= 0; var b >= 0; var c >= 0; var d >= 0; minimize z: -3/4 * a + 150 * b - 1/50 * c + 6 * d; subject r: 1/4 * a - 60 * b - 1/25 * c + 9 * d <= 0; subject s: 1/2 * a - 90 * b - 1/50 * c + 3 * d <= 0; subject t: c <= 1;", api.Best, "-1/20"},
		{"var a >= 0; var b >= 0; var c >= 0; var d >= 0; minimize z: -2 * a - 3 * b + c + 12 * d; subject r: -2 * a - 9 * b + c + 9 * d <= 0; subject s: 1/3 * a + b - 1/3 * c - 2 * d <= 0; subject t: 2 * a + 3 * b - c - 12 * d <= 2;", api.Best, "-2"},
		{"var a >= 0; var b >= 0; var c >= 0; var d >= 0; minimize z: -2 * a - 3 * b + c + 12 * d; subject r: -2 * a - 9 * b + c + 9 * d <= 0; subject s: 1/3 * a + b - 1/3 * c - 2 * d <= 0;", api.Endless, "0"},
		{"var a >= 0; var b >= 0; var c >= 0; var d >= 0; maximize z: 10 * a - 57 * b - 9 * c - 24 * d; subject r: 1/2 * a - 11/2 * b - 5/2 * c + 9 * d <= 0; subject s: 1/2 * a - 3/2 * b - 1/2 * c + d <= 0; subject t: a <= 1;", api.Best, "1"},
		{"var a >= 0; var b >= 0; var c >= 0; var d >= 0; minimize z: -2/5 * a - 2/5 * b + 9/5 * c; subject r: 3/5 * a - 32/5 * b + 24/5 * c <= 0; subject s: 1/5 * a - 9/5 * b + 3/5 * c <= 0; subject t: 2/5 * a - 8/5 * b + 1/5 * c <= 0; subject u: b <= 1;", api.Best, "-2"},
	} {
		p := problem(t, c.text)
		claim, where, err := Solve(p)
		if err != nil || claim.Kind != c.kind || claim.Value.Text() != c.value {
			t.Errorf("%s: %d, %s, %v", c.text, claim.Kind, claim.Value.Text(), err)
		}
		shown(t, p, claim, where)
		for _, patience := range []int{-1, 0, 3} {
			table := newTable(p)
			table.tell()
			table.patience = patience
			other := table.claim()
			shown(t, p, other, table.where)
			alike(t, p, claim, other)
		}
	}
}

// TestLongWay: by bounds and costs as here a rule that looks at costs alone goes through more bases than can be gone through.
func TestLongWay(t *testing.T) {
	const size = 60
	p := &linear.Problem{Max: true}
	ten, hundred := ratio.Int(10), ratio.Int(100)
	cost, high := ratio.Int(1), ratio.Int(1)
	for i := range size {
		p.Cols = append(p.Cols, linear.Col{Name: "c" + strconv.Itoa(i), Low: linear.Bound{Has: true}})
		row := linear.Row{Name: "r" + strconv.Itoa(i), High: linear.Bound{Has: true, At: high}}
		by := ratio.Int(2)
		for j := range i {
			row.Terms = append(row.Terms, linear.Term{Col: i - 1 - j})
			by = by.Mul(ten)
			row.Terms[j].By = by
		}
		for j := range i / 2 { // the last came first
			row.Terms[j], row.Terms[i-1-j] = row.Terms[i-1-j], row.Terms[j]
		}
		row.Terms = append(row.Terms, linear.Term{Col: i, By: ratio.Int(1)})
		p.Rows = append(p.Rows, row)
		high = high.Mul(hundred)
	}
	for i := range size {
		p.Cols[size-1-i].Cost = cost
		cost = cost.Mul(ten)
	}
	c, where, err := Solve(p)
	if err != nil || c.Kind != api.Best || c.Value.Cmp(p.Rows[size-1].High.At) != 0 {
		t.Fatalf("%d, %s, %v", c.Kind, c.Value.Text(), err)
	}
	shown(t, p, c, where)
}

// TestLargest: as many columns and rows as there may be.
func TestLargest(t *testing.T) {
	s := scatter(41)
	var count kinds
	for range 3 {
		p := s.large(api.MaxCols, api.MaxRows)
		c, where, err := Solve(p)
		if err != nil {
			t.Fatal(err)
		}
		shown(t, p, c, where)
		if _, again, err := From(p, where); err != nil || letters(again) != letters(where) && c.Kind == api.Best {
			t.Errorf("from %s: %s, %v", letters(where), letters(again), err)
		}
		count[c.Kind]++
	}
	if count[api.Best] == 0 {
		t.Errorf("of each kind %v", count)
	}
}

// large is a problem of some columns in each row, which a point holds.
func (s *scatter) large(cols, rows int) *linear.Problem {
	p := &linear.Problem{Max: true}
	var x []ratio.R
	for j := range cols {
		x = append(x, ratio.Int(int64(s.below(9))))
		high := linear.Bound{Has: s.below(4) > 0, At: ratio.Int(int64(9 + s.below(9)))}
		p.Cols = append(p.Cols, linear.Col{Name: "c" + strconv.Itoa(j), Low: linear.Bound{Has: true}, High: high, Cost: s.fraction()})
	}
	for i := range rows {
		row := linear.Row{Name: "r" + strconv.Itoa(i)}
		for j := range cols {
			if by := s.fraction(); by.Sign() != 0 && s.below(15) == 0 {
				row.Terms = append(row.Terms, linear.Term{Col: j, By: by})
			}
		}
		at := linear.Sum(row.Terms, x)
		row.Low = linear.Bound{Has: s.below(2) == 0, At: at.Sub(ratio.Int(int64(s.below(3))))}
		row.High = linear.Bound{Has: s.below(2) == 0, At: at.Add(ratio.Int(int64(s.below(3))))}
		p.Rows = append(p.Rows, row)
	}
	return p
}

// TestManyAlike: each row there is says the same, so that all but one change nothing.
func TestManyAlike(t *testing.T) {
	p := problem(t, "var x >= 0; var y >= 0; var w >= 0; maximize z: 2 * x + 3 * y + w;")
	for i := range api.MaxRows {
		by := ratio.Int(int64(i + 1))
		row := linear.Row{Name: "r" + strconv.Itoa(i), High: linear.Bound{Has: true, At: by.Mul(ratio.Int(6))}}
		for col := range 3 {
			row.Terms = append(row.Terms, linear.Term{Col: col, By: by.Mul(ratio.Int(int64(col + 1)))})
		}
		if i%3 == 0 {
			row.Low = row.High
		}
		p.Rows = append(p.Rows, row)
	}
	c, where, err := Solve(p)
	if err != nil || c.Kind != api.Best || c.Value.Text() != "12" {
		t.Fatalf("%d, %s, %v", c.Kind, c.Value.Text(), err)
	}
	shown(t, p, c, where)
	p.Rows[0].Low.At, p.Rows[0].High.At = ratio.Int(7), ratio.Int(7)
	c, where, err = Solve(p)
	if err != nil || c.Kind != api.None {
		t.Fatalf("%d, %v", c.Kind, err)
	}
	shown(t, p, c, where)
}

// TestGreatNumbers: numbers of many digits, near to each other.
func TestGreatNumbers(t *testing.T) {
	p := problem(t, "var x; var y; maximize z: x + y; subject a: 100000000000000000000000000000 * x + 99999999999999999999999999999 * y <= 1; subject b: 99999999999999999999999999999 * x + 99999999999999999999999999998 * y <= 1;")
	c, where, err := Solve(p)
	if err != nil {
		t.Fatal(err)
	}
	shown(t, p, c, where)
	f, err := FrameOf(p, stands("BBHH"))
	if err != nil || texts(f.X) != "1 -1 1 1" {
		t.Errorf("%s, %v", texts(f.X), err)
	}
}

// TestWatch: one is careful when more steps in a row than patience allows have gained nothing, until one does.
func TestWatch(t *testing.T) {
	table := newTable(problem(t, first))
	if table.patience != 3 {
		t.Fatalf("patience %d", table.patience)
	}
	watch := table.watch()
	for i, c := range []struct{ gained, careful bool }{
		{true, false}, {false, false}, {false, false}, {false, false}, {false, true}, {false, true}, {true, false}, {false, false},
	} {
		if watch(c.gained) != c.careful {
			t.Errorf("step %d", i)
		}
	}
}
