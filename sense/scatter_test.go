package sense

import (
	"slices"
	"strconv"
	"testing"

	"optima/api"
	"optima/linear"
	"optima/ratio"
	"optima/simplex"
	"optima/witness"
)

// scatter makes problems and lists out of a fixed rule.
type scatter uint64

func (s *scatter) below(n int) int {
	*s ^= *s << 13
	*s ^= *s >> 7
	*s ^= *s << 17
	return int(uint64(*s) % uint64(n))
}

// fraction is a small number, mostly whole.
func (s *scatter) fraction() ratio.R {
	r, _ := ratio.Int(int64(s.below(9) - 4)).Quo(ratio.Int(int64(max(1, s.below(5)-1))))
	return r
}

// sides are bounds that seldom cross.
func (s *scatter) sides() (low, high linear.Bound) {
	low = linear.Bound{Has: s.below(3) > 0, At: s.fraction()}
	high = linear.Bound{Has: s.below(3) > 0, At: low.At.Add(ratio.Int(int64(s.below(4))))}
	if s.below(100) == 0 {
		low, high = high, low
	}
	return low, high
}

func (s *scatter) problem(cols, rows int) *linear.Problem {
	p := &linear.Problem{Max: s.below(2) == 0, Shift: s.fraction()}
	for j := range cols {
		low, high := s.sides()
		p.Cols = append(p.Cols, linear.Col{Name: "c" + strconv.Itoa(j), Whole: s.below(4) == 0, Low: low, High: high, Cost: s.fraction()})
	}
	thin := 1 + s.below(4)
	for i := range rows {
		low, high := s.sides()
		row := linear.Row{Name: "r" + strconv.Itoa(i), Low: low, High: high}
		for j := range cols {
			if by := s.fraction(); by.Sign() != 0 && s.below(thin) == 0 {
				row.Terms = append(row.Terms, linear.Term{Col: j, By: by})
			}
		}
		p.Rows = append(p.Rows, row)
	}
	return p
}

// everywhere is each list of that length of where columns may stand.
func everywhere(length int) [][]int {
	out := [][]int{nil}
	for range length {
		var longer [][]int
		for _, where := range out {
			for at := range 4 {
				longer = append(longer, append(where[:len(where):len(where)], at))
			}
		}
		out = longer
	}
	return out
}

// TestGoodEverywhere: a basis is the best one just where its point and its prices show that they are best: a column or a row whose price is on the wrong side is paid for at its other bound. (Bounds that are the same have no other one.)
func TestGoodEverywhere(t *testing.T) {
	s := scatter(88172645463325252)
	good, others := 0, 0
	for range 1200 {
		p := s.problem(s.below(4), s.below(3))
		for _, where := range everywhere(len(p.Cols) + len(p.Rows)) {
			f, err := simplex.FrameOf(p, where)
			if err != nil {
				if ok, wrong := Good(p, where); ok || wrong != err {
					t.Fatalf("%+v, %v: %v, %v, want %v", p, where, ok, wrong, err)
				}
				continue
			}
			cols := len(p.Cols)
			value, _ := linear.Value(p, f.X[:cols])
			want, err := witness.Check(p, witness.Claim{Kind: api.Best, X: f.X[:cols], Y: f.Cost[cols:], Value: value})
			if err != nil {
				t.Fatal(err)
			}
			ok, err := Good(p, where)
			if err != nil || ok != want {
				t.Fatalf("%+v, %v: %v, %v, want %v", p, where, ok, err, want)
			}
			if !ok {
				refused(t, p, where, nil, api.ErrOpen)
				others++
				continue
			}
			good++
			tight(t, p, where)
		}
	}
	if good < 500 || others < 1000 {
		t.Errorf("%d are the best one, %d are not", good, others)
	}
}

// tight holds ranges against what they say: up to their ends all is well, and a little beyond nothing is.
func tight(t *testing.T, p *linear.Problem, where []int) {
	t.Helper()
	costs, err := Costs(p, where)
	if err != nil || len(costs) != len(p.Cols) {
		t.Fatalf("%+v, %v: %s, %v", p, where, told(costs), err)
	}
	for col, r := range costs {
		probe(t, r, p.Cols[col].Cost, func(cost ratio.R) bool {
			other := linear.Twin(p)
			other.Cols[col].Cost = cost
			ok, err := Good(other, where)
			return ok && err == nil
		})
	}
	sides, err := Sides(p, where)
	if err != nil || len(sides) != len(where) {
		t.Fatalf("%+v, %v: %s, %v", p, where, told(sides), err)
	}
	f, err := simplex.FrameOf(p, where)
	if err != nil {
		t.Fatal(err)
	}
	for col, r := range sides {
		if where[col] == api.Basic {
			if r.Low.Has || r.High.Has {
				t.Fatalf("%+v, %v: column %d: %s", p, where, col, told(sides))
			}
			continue
		}
		probe(t, r, f.X[col], func(at ratio.R) bool { return standsAt(t, p, where, col, at) })
	}
}

// probe asks at the ends of a range, beyond them, and far away where there are none.
func probe(t *testing.T, r Range, now ratio.R, holds func(ratio.R) bool) {
	t.Helper()
	ask := func(at ratio.R, want bool) {
		t.Helper()
		if holds(at) != want {
			t.Fatalf("%s: at %s it is %v", told([]Range{r}), at.Text(), !want)
		}
	}
	ask(now, true)
	little, _ := ratio.Int(1).Quo(ratio.Int(1 << 40))
	far := ratio.Int(1 << 40)
	if r.Low.Has {
		ask(r.Low.At, true)
		ask(r.Low.At.Sub(little), false)
	} else {
		ask(now.Sub(far), true)
	}
	if r.High.Has {
		ask(r.High.At, true)
		ask(r.High.At.Add(little), false)
	} else {
		ask(now.Add(far), true)
	}
}

// standsAt is whether all Basic columns are within their bounds, when a column that is not Basic stands at a number.
func standsAt(t *testing.T, p *linear.Problem, where []int, col int, at ratio.R) bool {
	t.Helper()
	other := linear.Twin(p)
	bound := linear.Bound{Has: true, At: at}
	if cols := len(p.Cols); col < cols {
		other.Cols[col].Low, other.Cols[col].High = bound, bound
	} else {
		other.Rows[col-cols].Low, other.Rows[col-cols].High = bound, bound
	}
	there := slices.Clone(where)
	there[col] = api.Low
	f, err := simplex.FrameOf(other, there)
	if err != nil {
		t.Fatal(err)
	}
	ok, err := linear.Holds(other, f.X[:len(p.Cols)], false)
	if err != nil {
		t.Fatal(err)
	}
	return ok
}

// TestSolved: the basis of a best point is the best one, also of greater problems.
func TestSolved(t *testing.T) {
	s := scatter(2463534242)
	count := 0
	for range 3000 {
		p := s.problem(s.below(8), s.below(8))
		c, where, err := simplex.Solve(p)
		if err != nil {
			t.Fatal(err)
		}
		ok, err := Good(p, where)
		if err != nil || ok != (c.Kind == api.Best) {
			t.Fatalf("%+v, %v: %v, %v", p, where, ok, err)
		}
		if !ok {
			continue
		}
		count++
		tight(t, p, where)
	}
	if count < 300 {
		t.Errorf("%d have a best point", count)
	}
}

// TestSameAgain: what is answered hangs on nothing but what is given (P2).
func TestSameAgain(t *testing.T) {
	s := scatter(362436069)
	for range 200 {
		p := s.problem(1+s.below(7), 1+s.below(7))
		c, where, err := simplex.Solve(p)
		if err != nil || c.Kind != api.Best {
			continue
		}
		costs, _ := Costs(p, where)
		sides, _ := Sides(p, where)
		for range 3 {
			again, _ := Costs(linear.Twin(p), slices.Clone(where))
			if told(again) != told(costs) {
				t.Fatalf("%s, %s", told(costs), told(again))
			}
			again, _ = Sides(linear.Twin(p), slices.Clone(where))
			if told(again) != told(sides) {
				t.Fatalf("%s, %s", told(sides), told(again))
			}
		}
	}
}

// TestLargest: as many columns and rows as there may be.
func TestLargest(t *testing.T) {
	s := scatter(41)
	p := &linear.Problem{Max: true}
	for j := range api.MaxCols {
		p.Cols = append(p.Cols, linear.Col{Name: "c" + strconv.Itoa(j), Low: linear.Bound{Has: true}, Cost: s.fraction()})
	}
	for i := range api.MaxRows {
		row := linear.Row{Name: "r" + strconv.Itoa(i), High: linear.Bound{Has: true, At: ratio.Int(int64(1 + s.below(9)))}}
		for j := range api.MaxCols {
			if i == j || s.below(15) == 0 {
				row.Terms = append(row.Terms, linear.Term{Col: j, By: ratio.Int(int64(1 + s.below(9)))})
			}
		}
		p.Rows = append(p.Rows, row)
	}
	c, where, err := simplex.Solve(p)
	if err != nil || c.Kind != api.Best {
		t.Fatalf("%d, %v", c.Kind, err)
	}
	costs, err := Costs(p, where)
	if err != nil || len(costs) != api.MaxCols {
		t.Fatalf("%d costs, %v", len(costs), err)
	}
	sides, err := Sides(p, where)
	if err != nil || len(sides) != api.MaxCols+api.MaxRows {
		t.Fatalf("%d sides, %v", len(sides), err)
	}
	for col, r := range costs[:5] {
		probe(t, r, p.Cols[col].Cost, func(cost ratio.R) bool {
			other := linear.Twin(p)
			other.Cols[col].Cost = cost
			ok, err := Good(other, where)
			return ok && err == nil
		})
	}
}
