package simplex

import (
	"errors"
	"strconv"
	"testing"

	"optima/api"
	"optima/linear"
	"optima/ratio"
)

// started is a run that has gone to its best.
func started(t *testing.T, p *linear.Problem) *Run {
	t.Helper()
	r, err := Start(p)
	if err != nil {
		t.Fatal(err)
	}
	r.Claim()
	return r
}

// change gives a problem other bounds of a column, or one more row, and the run with it.
func (s *scatter) change(t *testing.T, p *linear.Problem, r *Run) {
	t.Helper()
	if len(p.Cols) > 0 && s.below(3) > 0 {
		col := s.below(len(p.Cols))
		low, high := s.sides()
		p.Cols[col].Low, p.Cols[col].High = low, high
		if err := r.Between(col, low, high); err != nil {
			t.Fatal(err)
		}
		return
	}
	low, high := s.sides()
	row := linear.Row{Name: "more" + strconv.Itoa(len(p.Rows)), Low: low, High: high}
	for j := range p.Cols {
		if by := s.fraction(); by.Sign() != 0 {
			row.Terms = append(row.Terms, linear.Term{Col: j, By: by})
		}
	}
	p.Rows = append(p.Rows, row)
	if err := r.Add(row); err != nil {
		t.Fatal(err)
	}
	for j := range row.Terms { // which the run has for itself
		row.Terms[j] = linear.Term{Col: 77}
	}
	p.Rows[len(p.Rows)-1] = r.t.p.Rows[len(p.Rows)-1]
}

// TestRunScattered: whatever changes on the way, what a run claims is what Solve tells of the problem as it is then.
func TestRunScattered(t *testing.T) {
	s := scatter(88675123)
	var count kinds
	for range 1500 {
		p := s.problem(s.below(6), s.below(5))
		r, err := Start(p)
		if err != nil {
			t.Fatal(err)
		}
		for range 6 {
			if s.below(3) > 0 {
				c, _, err := Solve(p)
				if err != nil {
					t.Fatal(err)
				}
				claim := r.Claim()
				alike(t, p, claim, c)
				shown(t, p, claim, r.Where())
				count[c.Kind]++
			}
			told(t, p, r)
			s.change(t, p, r)
		}
	}
	count.some(t, 500)
}

// told is whether By says what the frame does.
func told(t *testing.T, p *linear.Problem, r *Run) {
	t.Helper()
	where := r.Where()
	f, err := FrameOf(p, where)
	if err != nil {
		t.Fatalf("%+v: %s: %v", p, letters(where), err)
	}
	at := 0
	for col := range len(where) + 1 {
		by := r.By(col)
		if col == len(where) || where[col] != api.Basic {
			if by != nil {
				t.Fatalf("%s: column %d: %s", letters(where), col, texts(by))
			}
			continue
		}
		if texts(by) != texts(f.By[at]) {
			t.Fatalf("%+v: %s: column %d: %s, want %s", p, letters(where), col, texts(by), texts(f.By[at]))
		}
		at++
	}
}

// TestToll: a point that has a column further up or down costs as much more as the toll says, at the least; and where the column has but to move a little, mostly just that.
func TestToll(t *testing.T) {
	s := scatter(362436069)
	var just, more, none int
	for range 3000 {
		p := s.problem(1+s.below(5), 1+s.below(4))
		r := started(t, p)
		claim, where, _ := Solve(p)
		if claim.Kind != api.Best {
			continue
		}
		for col := range p.Cols {
			for _, way := range []int{-1, 1} {
				toll := r.Toll(col, way)
				if where[col] != api.Basic {
					if toll.Has || toll.At.Sign() != 0 {
						t.Fatalf("column %d is not Basic", col)
					}
					continue
				}
				far, _ := ratio.Int(int64(way)).Quo(ratio.Int(int64(1 + s.below(1000))))
				q := linear.Twin(p)
				at := linear.Bound{Has: true, At: claim.X[col].Add(far)}
				if way > 0 {
					q.Cols[col].Low = at
				} else {
					q.Cols[col].High = at
				}
				other, _, _ := Solve(q)
				lost := other.Value.Sub(claim.Value).Mul(ratio.Int(int64(worse(p))))
				switch least := toll.At.Mul(far).Mul(ratio.Int(int64(way))); {
				case !toll.Has && other.Kind != api.None:
					t.Fatalf("%+v: column %d can go", p, col)
				case other.Kind == api.None:
					none++
				case lost.Cmp(least) < 0:
					t.Fatalf("%+v: column %d: %s, not %s", p, col, lost.Text(), least.Text())
				case lost.Cmp(least) == 0:
					just++
				default:
					more++
				}
			}
		}
	}
	if just < 500 || none < 100 || more > just/5 {
		t.Errorf("%d just, %d more, %d none", just, more, none)
	}
}

func TestTollByHand(t *testing.T) {
	// y is 1 at the best: for each 1 that it goes up x goes down by 2, for each that it goes down x would go above 4
	r := started(t, problem(t, first))
	up, down, still := r.Toll(1, 5), r.Toll(1, -1), r.Toll(1, 0)
	if !up.Has || up.At.Text() != "1" || !down.Has || down.At.Text() != "5" || still.Has {
		t.Errorf("%v %s, %v %s, %v", up.Has, up.At.Text(), down.Has, down.At.Text(), still.Has)
	}
	for _, col := range []int{-1, 0, 2, 3, 99} {
		if r.Toll(col, 1).Has {
			t.Errorf("column %d", col)
		}
	}
}

// TestTwins: each goes its way.
func TestTwins(t *testing.T) {
	s := scatter(123456789)
	for range 300 {
		p := s.problem(1+s.below(5), s.below(5))
		q := linear.Twin(p)
		r := started(t, p)
		twin := r.Twin()
		for range 3 {
			s.change(t, q, twin)
			twin.Claim()
		}
		c, _, _ := Solve(p)
		alike(t, p, r.Claim(), c)
		told(t, p, r)
		c, _, _ = Solve(q)
		alike(t, q, twin.Claim(), c)
		told(t, q, twin)
	}
}

func TestRunWrong(t *testing.T) {
	if r, err := Start(nil); r != nil || !errors.Is(err, api.ErrShape) {
		t.Errorf("nil: %v", err)
	}
	p := problem(t, first)
	kept := linear.Twin(p)
	r := started(t, p)
	for _, col := range []int{-1, 2, 3, 99} {
		if err := r.Between(col, linear.Bound{}, linear.Bound{}); !errors.Is(err, api.ErrShape) {
			t.Errorf("column %d: %v", col, err)
		}
	}
	one := ratio.Int(1)
	for _, c := range []struct {
		row  linear.Row
		want error
	}{
		{linear.Row{}, api.ErrName},
		{linear.Row{Name: "one"}, api.ErrName},
		{linear.Row{Name: "two", Terms: []linear.Term{{Col: 2, By: one}}}, api.ErrShape},
		{linear.Row{Name: "two", Terms: []linear.Term{{Col: -1, By: one}}}, api.ErrShape},
		{linear.Row{Name: "two", Terms: []linear.Term{{Col: 1, By: one}, {Col: 0, By: one}}}, api.ErrShape},
		{linear.Row{Name: "two", Terms: []linear.Term{{Col: 1}}}, api.ErrShape},
	} {
		if err := r.Add(c.row); !errors.Is(err, c.want) {
			t.Errorf("%+v: %v, want %v", c.row, err, c.want)
		}
	}
	for i := 1; i < api.MaxRows; i++ {
		if err := r.Add(linear.Row{Name: strconv.Itoa(i)}); err != nil {
			t.Fatal(err)
		}
	}
	if err := r.Add(linear.Row{Name: "x"}); !errors.Is(err, api.ErrBound) {
		t.Errorf("a row too many: %v", err)
	}
	if c := r.Claim(); c.Kind != api.Best || c.Value.Text() != "17" || len(c.Y) != api.MaxRows {
		t.Errorf("%d, %s", c.Kind, c.Value.Text())
	}
	same(t, p, kept)
}
