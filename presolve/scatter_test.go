package presolve

import (
	"reflect"
	"slices"
	"strconv"
	"testing"

	"optima/api"
	"optima/linear"
	"optima/plain"
	"optima/ratio"
	"optima/simplex"
)

// scatter makes problems and points out of a fixed rule.
type scatter uint64

func (s *scatter) below(n int) int {
	*s ^= *s << 13
	*s ^= *s >> 7
	*s ^= *s << 17
	return int(uint64(*s) % uint64(n))
}

// fraction is a small number, mostly whole.
func (s *scatter) fraction() ratio.R {
	r, _ := ratio.Int(int64(s.below(9) - 4)).Quo(ratio.Int(int64(max(1, s.below(5)-2))))
	return r
}

// sides are bounds that seldom cross, and often are the same.
func (s *scatter) sides(open int) (low, high linear.Bound) {
	low = linear.Bound{Has: s.below(open) > 0, At: s.fraction()}
	high = linear.Bound{Has: s.below(open) > 0, At: low.At.Add(ratio.Int(int64(s.below(5))))}
	if s.below(5) == 0 {
		high.At = low.At
	}
	if s.below(100) == 0 {
		low, high = high, low
	}
	if !low.Has {
		low.At = ratio.R{}
	}
	if !high.Has {
		high.At = ratio.R{}
	}
	return low, high
}

// problem has some whole columns (all of them between bounds), if whole is asked, and mostly short rows.
func (s *scatter) problem(cols, rows int, whole bool) *linear.Problem {
	p := &linear.Problem{Max: s.below(2) == 0, Shift: s.fraction()}
	for j := range cols {
		col := linear.Col{Name: "c" + strconv.Itoa(j), Whole: whole && s.below(2) == 0}
		if s.below(3) > 0 {
			col.Cost = s.fraction()
		}
		col.Low, col.High = s.sides(3)
		if col.Whole {
			col.Low, col.High = s.sides(1 << 30)
		}
		p.Cols = append(p.Cols, col)
	}
	for i := range rows {
		row := linear.Row{Name: "r" + strconv.Itoa(i)}
		row.Low, row.High = s.sides(3)
		thin := 1 + s.below(4)
		for j := range cols {
			if by := s.fraction(); by.Sign() != 0 && s.below(thin) == 0 {
				row.Terms = append(row.Terms, linear.Term{Col: j, By: by})
			}
		}
		switch s.below(6) {
		case 0, 1:
			row.Low, row.High = s.nearly(p.Cols, row.Terms)
		case 2, 3:
			row.Low = linear.Bound{Has: true, At: s.fraction()}
			row.High = row.Low
			for len(row.Terms) > 2 {
				at := s.below(len(row.Terms))
				row.Terms = slices.Delete(row.Terms, at, at+1)
			}
		}
		p.Rows = append(p.Rows, row)
	}
	return p
}

// nearly is as far as the columns' bounds let a row go, or hardly less or more.
func (s *scatter) nearly(cols []linear.Col, terms []linear.Term) (low, high linear.Bound) {
	low, high = linear.Bound{Has: true}, linear.Bound{Has: true}
	for _, t := range terms {
		least, most := cols[t.Col].Low, cols[t.Col].High
		if t.By.Sign() < 0 {
			least, most = most, least
		}
		low = linear.Bound{Has: low.Has && least.Has, At: low.At.Add(t.By.Mul(least.At))}
		high = linear.Bound{Has: high.Has && most.Has, At: high.At.Add(t.By.Mul(most.At))}
	}
	switch s.below(4) {
	case 0:
		low, high = linear.Bound{}, low
	case 1:
		low, high = high, linear.Bound{}
	}
	low.At = low.At.Add(ratio.Int(int64(s.below(3) - 1)))
	high.At = high.At.Add(ratio.Int(int64(s.below(3) - 1)))
	if !low.Has {
		low.At = ratio.R{}
	}
	if !high.Has {
		high.At = ratio.R{}
	}
	return low, high
}

// TestPlainly: the answers are those of the document's words, taken one by one.
func TestPlainly(t *testing.T) {
	s := scatter(88172645463325252)
	var did [8]int
	for range 20000 {
		most := 2 + s.below(14)
		p := s.problem(s.below(most), s.below(most), s.below(3) == 0)
		twin := linear.Twin(p)
		r := smaller(t, p)
		if !reflect.DeepEqual(p, twin) {
			t.Fatalf("%+v has changed", twin)
		}
		want := plainly(p, &did)
		if got := told(p, r); got != want {
			t.Fatalf("%+v:\n%s, want\n%s", plain.Spec(p), got, want)
		}
		if again := told(p, smaller(t, twin)); again != want {
			t.Fatalf("%+v:\n%s, then\n%s", plain.Spec(p), want, again)
		}
		if !r.None && linear.Valid(r.Small) != nil {
			t.Fatalf("%+v is not valid", r.Small)
		}
	}
	for rule, times := range did[1:] {
		if times < 500 {
			t.Errorf("rule %d did something %d times", rule+1, times)
		}
	}
}

// best is what the best whole point of a problem costs, by all that its whole columns may be; or that there is none, or no best one.
func best(t *testing.T, p *linear.Problem, col int) (int, ratio.R) {
	t.Helper()
	for col < len(p.Cols) && !p.Cols[col].Whole {
		col++
	}
	if col == len(p.Cols) {
		c, _, err := simplex.Solve(p)
		if err != nil {
			t.Fatal(err)
		}
		return c.Kind, c.Value
	}
	kind, value := api.None, ratio.R{}
	low, _ := p.Cols[col].Low.At.Ceil().Int64()
	high, _ := p.Cols[col].High.At.Floor().Int64()
	for number := low; number <= high; number++ {
		one := linear.Twin(p)
		at := linear.Bound{Has: true, At: ratio.Int(number)}
		one.Cols[col].Low, one.Cols[col].High = at, at
		k, v := best(t, one, col+1)
		if k == api.Endless {
			return k, v
		}
		if k == api.Best && (kind == api.None || v.Cmp(value) != 0 && (v.Cmp(value) > 0) == p.Max) {
			kind, value = k, v
		}
	}
	return kind, value
}

// TestSameBest: no point is lost that matters, and none is won.
func TestSameBest(t *testing.T) {
	s := scatter(2463534242)
	var kinds [4]int
	smallest := 0
	for range 6000 {
		whole := s.below(3) == 0
		p := s.problem(s.below(6), s.below(6), whole)
		kind, value := best(t, p, 0)
		kinds[kind]++
		r := smaller(t, p)
		if r.None {
			if kind != api.None {
				t.Fatalf("%+v: none, want %d", plain.Spec(p), kind)
			}
			continue
		}
		if len(r.Cols) > 0 {
			smallest++
		}
		k, v := best(t, r.Small, 0)
		if k != kind || v.Cmp(value) != 0 {
			t.Fatalf("%+v:\n%s: %d, %s, want %d, %s", plain.Spec(p), told(p, r), k, v.Text(), kind, value.Text())
		}
		c, _, err := simplex.Solve(r.Small)
		if err != nil {
			t.Fatal(err)
		}
		if c.Kind != api.None {
			back := backHolds(t, p, r, c.X)
			if v, _ := linear.Value(p, back); c.Kind == api.Best && !whole && v.Cmp(value) != 0 {
				t.Fatalf("%+v: %s costs %s, want %s", plain.Spec(p), plain.Texts(back), v.Text(), value.Text())
			}
		}
		for range 3 {
			x := make([]ratio.R, len(r.Cols))
			for i := range x {
				x[i] = s.fraction()
			}
			backHolds(t, p, r, x)
		}
	}
	if kinds[api.Best] < 500 || kinds[api.None] < 500 || kinds[api.Endless] < 500 || smallest < 500 {
		t.Errorf("%v, %d with columns that are left", kinds, smallest)
	}
}

// backHolds takes a point back: if it holds there, it holds here, whole or not, and it costs the same anyway.
func backHolds(t *testing.T, p *linear.Problem, r *Result, x []ratio.R) []ratio.R {
	t.Helper()
	back, err := r.Back(x)
	if err != nil || len(back) != len(p.Cols) {
		t.Fatalf("%+v: %v, %v", plain.Spec(p), plain.Texts(back), err)
	}
	small, err := linear.Value(r.Small, x)
	if err != nil {
		t.Fatal(err)
	}
	value, err := linear.Value(p, back)
	if err != nil || value.Cmp(small) != 0 {
		t.Fatalf("%+v: %v costs %s, in the small one %s, %v", plain.Spec(p), plain.Texts(back), value.Text(), small.Text(), err)
	}
	for _, whole := range []bool{false, true} {
		there, _ := linear.Holds(r.Small, x, whole)
		here, err := linear.Holds(p, back, whole)
		if err != nil || there && !here {
			t.Fatalf("%+v: %v, whole %v: %v, %v", plain.Spec(p), plain.Texts(back), whole, here, err)
		}
	}
	return back
}
