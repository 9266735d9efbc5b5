package branch

import (
	"errors"
	"slices"
	"strconv"
	"testing"

	"optima/api"
	"optima/linear"
	"optima/ratio"
	"optima/simplex"
)

// scatter makes problems and trails out of a fixed rule.
type scatter uint64

func (s *scatter) below(n int) int {
	*s ^= *s << 13
	*s ^= *s >> 7
	*s ^= *s << 17
	return int(uint64(*s) % uint64(n))
}

// fraction is a small number, mostly whole.
func (s *scatter) fraction() ratio.R {
	r, _ := ratio.Int(int64(s.below(11) - 5)).Quo(ratio.Int(int64(max(1, s.below(5)-2))))
	return r
}

// sides are bounds that seldom cross.
func (s *scatter) sides(open int) (low, high linear.Bound) {
	low = linear.Bound{Has: s.below(open) > 0, At: s.fraction()}
	high = linear.Bound{Has: s.below(open) > 0, At: low.At.Add(ratio.Int(int64(s.below(4))))}
	if s.below(100) == 0 {
		low, high = high, low
	}
	return low, high
}

// problem has columns of both kinds; those that are whole are nearly always between bounds.
func (s *scatter) problem(cols, rows int) *linear.Problem {
	p := &linear.Problem{Max: s.below(2) == 0, Shift: s.fraction()}
	mixed := s.below(3) > 0
	var near []ratio.R // a point by which rows are made
	for j := range cols {
		col := linear.Col{Name: "c" + strconv.Itoa(j), Whole: !mixed || s.below(3) > 0, Cost: s.fraction()}
		col.Low, col.High = s.sides(5)
		if col.Whole && s.below(100) > 0 {
			col.Low, col.High = s.sides(1 << 30)
		}
		if col.Whole && s.below(4) == 0 {
			col.Low, col.High = linear.Bound{Has: true}, linear.Bound{Has: true, At: ratio.Int(1)}
		}
		p.Cols = append(p.Cols, col)
		near = append(near, floor(col.Low.At.Add(ratio.Int(int64(1+s.below(2))))))
	}
	around := s.below(5) > 0
	thin := 1 + s.below(3)
	for i := range rows {
		row := linear.Row{Name: "cut" + strconv.Itoa(i*i)}
		row.Low, row.High = s.sides(3)
		if s.below(4) == 0 {
			row.Low = row.High
		}
		if s.below(12) == 0 {
			row.Low, row.High = linear.Bound{}, linear.Bound{}
		}
		for j := range cols {
			if by := s.fraction(); by.Sign() != 0 && s.below(thin) == 0 {
				row.Terms = append(row.Terms, linear.Term{Col: j, By: by})
			}
		}
		if at := linear.Sum(row.Terms, near); around {
			wide := row.High.At.Sub(row.Low.At)
			row.Low.At = at.Sub(ratio.Int(int64(s.below(2))))
			row.High.At = row.Low.At.Add(wide)
		}
		p.Rows = append(p.Rows, row)
	}
	return p
}

// tried is the best value of all that whole columns may be, tried one by one; none: there is no whole point.
func tried(p *linear.Problem) linear.Bound {
	q := linear.Twin(p)
	var best linear.Bound
	var walk func(col int)
	walk = func(col int) {
		if col == len(q.Cols) {
			if c, _, _ := simplex.Solve(q); c.Kind == api.Best && (!best.Has || better(p, c.Value, best.At)) {
				best = linear.Bound{Has: true, At: c.Value}
			}
			return
		}
		if !q.Cols[col].Whole {
			walk(col + 1)
			return
		}
		kept := q.Cols[col]
		first, _ := kept.Low.At.Ceil().Int64()
		last, _ := kept.High.At.Floor().Int64()
		for n := first; n <= last; n++ {
			at := linear.Bound{Has: true, At: ratio.Int(n)}
			q.Cols[col].Low, q.Cols[col].High = at, at
			walk(col + 1)
		}
		q.Cols[col] = kept
	}
	walk(0)
	return best
}

// isOpenPlainly is what ErrOpen says.
func isOpenPlainly(p *linear.Problem) bool {
	for _, c := range p.Cols {
		if c.Whole && (!c.Low.Has || !c.High.Has) {
			return true
		}
	}
	c, _, _ := simplex.Solve(p)
	return c.Kind == api.Endless
}

func TestSolveScattered(t *testing.T) {
	s := scatter(2463534242)
	var open, none, best, long int
	for range 6000 {
		p := s.problem(s.below(6), s.below(6))
		if isOpenPlainly(p) {
			open++
			if a, l, err := Solve(p); !errors.Is(err, api.ErrOpen) || a.Kind != 0 || a.X != nil || a.Value.Sign() != 0 || l != nil {
				t.Fatalf("%+v: %+v, %v", p, a, err)
			}
			continue
		}
		a, l := solved(t, p)
		if !plainCheck(p, a, l) {
			t.Fatalf("%+v: by the document's words %s shows nothing", p, told(l))
		}
		want := tried(p)
		if !want.Has {
			none++
		} else {
			best++
		}
		if len(l) > 3 {
			long++
		}
		if want.Has != (a.Kind == api.Best) || want.Has && want.At.Cmp(a.Value) != 0 || !want.Has && a.Kind != api.None {
			t.Fatalf("%+v: %d, %s, want %v, %s", p, a.Kind, a.Value.Text(), want.Has, want.At.Text())
		}
	}
	if min(open, none, best, long) < 150 {
		t.Errorf("%d open, %d none, %d best, %d long", open, none, best, long)
	}
}

// spoiled is a trail with something changed: so that it may not show anything any more.
func (s *scatter) spoiled(p *linear.Problem, a Answer, l []Line) (Answer, []Line) {
	a.X, l = slices.Clone(a.X), slices.Clone(l)
	for i := range l {
		l[i].Y = slices.Clone(l[i].Y)
	}
	for range 1 + s.below(2) {
		at := s.below(len(l))
		line := &l[at]
		switch s.below(14) {
		case 0:
			l = slices.Delete(l, at, at+1)
		case 1:
			l = slices.Insert(l, at, l[s.below(len(l))])
		case 2:
			other := s.below(len(l))
			l[at], l[other] = l[other], l[at]
		case 3:
			line.Kind = s.below(6)
		case 4:
			line.Col = s.below(len(p.Cols)+2) - 1
		case 5:
			line.At = line.At.Add(s.fraction())
		case 6, 7, 8:
			if len(line.Y) > 0 {
				i := s.below(len(line.Y))
				line.Y[i] = line.Y[i].Add(s.fraction())
			}
		case 9:
			line.Y = append(line.Y, s.fraction())
		case 10:
			line.Y = line.Y[:s.below(len(line.Y)+1)]
		case 11:
			a.Value = a.Value.Add(s.fraction())
		case 12:
			if len(a.X) > 0 {
				i := s.below(len(a.X))
				a.X[i] = a.X[i].Add(s.fraction())
				a.Value, _ = linear.Value(p, a.X)
			}
		default:
			a = Answer{Kind: s.below(4)}
		}
		if len(l) == 0 {
			break
		}
	}
	return a, l
}

// TestCheckSpoiled: what is said of trails that are changed is what the document's words say.
func TestCheckSpoiled(t *testing.T) {
	s := scatter(88675123)
	var right, wrong int
	for range 3000 {
		p := s.problem(1+s.below(4), s.below(5))
		a, l, err := Solve(p)
		if err != nil {
			continue
		}
		for range 6 {
			b, m := s.spoiled(p, a, l)
			yes, err := Check(p, b, m)
			if want := plainCheck(p, b, m); err != nil || yes != want {
				t.Fatalf("%+v: %d, %s at %s by %s: %v, %v, want %v", p, b.Kind, b.Value.Text(), texts(b.X), told(m), yes, err, want)
			}
			if yes {
				right++
			} else {
				wrong++
			}
		}
	}
	if min(right, wrong) < 1000 {
		t.Errorf("%d right, %d wrong", right, wrong)
	}
}

// wander makes a trail that splits and cuts more than it has to, at random, and ends what can be ended.
func (s *scatter) wander(p *linear.Problem, best Answer, left int) []Line {
	claim, _, _ := simplex.Solve(p)
	switch {
	case s.below(15) == 0:
		return []Line{{Kind: 3 + s.below(2), Y: claim.Y}}
	case claim.Kind == api.None && s.below(3) > 0:
		return []Line{{Kind: api.TrailNone, Y: claim.Y}}
	case claim.Kind == api.Best && best.Kind == api.Best && !better(p, claim.Value, best.Value) && s.below(3) > 0:
		return []Line{{Kind: api.TrailBound, Y: claim.Y}}
	case left == 0:
		return []Line{{Kind: api.TrailNone}}
	}
	if s.below(3) == 0 {
		line := Line{Kind: api.TrailCut, Y: make([]ratio.R, len(p.Rows))}
		for i := range line.Y {
			line.Y[i] = s.fraction()
		}
		var open stack[*linear.Problem]
		if follow(&open, p, best, line) {
			next, _ := open.pop()
			return append([]Line{line}, s.wander(next, best, left-1)...)
		}
	}
	col := s.below(len(p.Cols))
	line := Line{Kind: api.TrailSplit, Col: col, At: ratio.Int(int64(s.below(7) - 3))}
	if claim.Kind == api.Best && s.below(4) > 0 {
		line.At = floor(claim.X[col])
	}
	if !p.Cols[col].Whole {
		return s.wander(p, best, left-1)
	}
	out := append([]Line{line}, s.wander(narrowed(p, col, lower, line.At), best, left-1)...)
	return append(out, s.wander(narrowed(p, col, raise, line.At), best, left-1)...)
}

// TestCheckWandering: trails of all shapes.
func TestCheckWandering(t *testing.T) {
	s := scatter(521288629)
	var right, wrong int
	for range 3000 {
		p := s.problem(1+s.below(3), s.below(4))
		a, _, err := Solve(p)
		if err != nil {
			continue
		}
		l := s.wander(p, a, 8)
		yes, err := Check(p, a, l)
		if want := plainCheck(p, a, l); err != nil || yes != want {
			t.Fatalf("%+v: %d, %s at %s by %s: %v, %v, want %v", p, a.Kind, a.Value.Text(), texts(a.X), told(l), yes, err, want)
		}
		if yes {
			right++
		} else {
			wrong++
		}
	}
	if min(right, wrong) < 300 {
		t.Errorf("%d right, %d wrong", right, wrong)
	}
}
