package simplex

import (
	"slices"
	"strconv"
	"testing"

	"optima/api"
	"optima/linear"
	"optima/ratio"
	"optima/witness"
)

// scatter makes problems and lists out of a fixed rule.
type scatter uint64

func (s *scatter) below(n int) int {
	*s ^= *s << 13
	*s ^= *s >> 7
	*s ^= *s << 17
	return int(uint64(*s) % uint64(n))
}

// around is a number from -n to n.
func (s *scatter) around(n int) int { return s.below(2*n+1) - n }

// fraction is a small number, mostly whole.
func (s *scatter) fraction() ratio.R {
	r, _ := ratio.Int(int64(s.around(4))).Quo(ratio.Int(int64(max(1, s.below(5)-1))))
	return r
}

// sides are bounds that seldom cross.
func (s *scatter) sides() (low, high linear.Bound) {
	low = linear.Bound{Has: s.below(3) > 0, At: s.fraction()}
	high = linear.Bound{Has: s.below(3) > 0, At: low.At.Add(ratio.Int(int64(s.below(4))))}
	if s.below(100) == 0 {
		low, high = high, low
	}
	return low, high
}

func (s *scatter) problem(cols, rows int) *linear.Problem {
	p := &linear.Problem{Max: s.below(2) == 0, Shift: s.fraction()}
	for j := range cols {
		low, high := s.sides()
		p.Cols = append(p.Cols, linear.Col{Name: "c" + strconv.Itoa(j), Whole: s.below(4) == 0, Low: low, High: high, Cost: s.fraction()})
	}
	thin := 1 + s.below(4)
	for i := range rows {
		low, high := s.sides()
		row := linear.Row{Name: "r" + strconv.Itoa(i), Low: low, High: high}
		for j := range cols {
			if by := s.fraction(); by.Sign() != 0 && s.below(thin) == 0 {
				row.Terms = append(row.Terms, linear.Term{Col: j, By: by})
			}
		}
		p.Rows = append(p.Rows, row)
	}
	return p
}

// where is a list that is a basis, if its columns follow.
func (s *scatter) where(p *linear.Problem) []int {
	var out []int
	for col := range len(p.Cols) + len(p.Rows) {
		low, high := sides(p, col)
		switch {
		case low.Has && (!high.Has || s.below(2) == 0):
			out = append(out, api.Low)
		case high.Has:
			out = append(out, api.High)
		default:
			out = append(out, api.Loose)
		}
	}
	for count := 0; count < len(p.Rows); {
		if col := s.below(len(out)); out[col] != api.Basic {
			out[col] = api.Basic
			count++
		}
	}
	return out
}

// kinds counts claims of each kind.
type kinds [4]int

func (k kinds) some(t *testing.T, least int) {
	t.Helper()
	if k[0] != 0 || min(k[api.Best], k[api.None], k[api.Endless]) < least {
		t.Errorf("of each kind %v", k)
	}
}

// alike is whether two claims are of one kind and one value.
func alike(t *testing.T, p *linear.Problem, one, other witness.Claim) {
	t.Helper()
	if one.Kind != other.Kind || one.Value.Cmp(other.Value) != 0 {
		t.Fatalf("%+v: %d, %s and %d, %s", p, one.Kind, one.Value.Text(), other.Kind, other.Value.Text())
	}
}

func TestSolveScattered(t *testing.T) {
	s := scatter(2463534242)
	var count kinds
	for range 6000 {
		p := s.problem(s.below(7), s.below(7))
		c, where, err := Solve(p)
		if err != nil {
			t.Fatalf("%+v: %v", p, err)
		}
		shown(t, p, c, where)
		count[c.Kind]++
	}
	count.some(t, 500)
}

// TestFromScattered: from whatever basis, what comes of it is what Solve tells.
func TestFromScattered(t *testing.T) {
	s := scatter(521288629)
	var count kinds
	for range 6000 {
		p := s.problem(1+s.below(6), 1+s.below(6))
		where := s.where(p)
		kept := slices.Clone(where)
		c, last, err := From(p, where)
		if !slices.Equal(where, kept) {
			t.Fatalf("%s is changed into %s", letters(kept), letters(where))
		}
		if isBasis(t, p, where) != (err == nil) {
			t.Fatalf("%+v, %s: %v", p, letters(where), err)
		}
		if err != nil {
			continue
		}
		shown(t, p, c, last)
		solved, _, _ := Solve(p)
		alike(t, p, c, solved)
		count[c.Kind]++
	}
	count.some(t, 200)
}

// TestSameAgain: what is answered hangs on nothing but what is given (P2).
func TestSameAgain(t *testing.T) {
	s := scatter(362436069)
	for range 300 {
		p := s.problem(s.below(7), s.below(7))
		one, where, _ := Solve(p)
		other, again, _ := Solve(linear.Twin(p))
		if !slices.Equal(where, again) || texts(one.X) != texts(other.X) || texts(one.Y) != texts(other.Y) || texts(one.Ray) != texts(other.Ray) {
			t.Fatalf("%+v: %s, %s", p, letters(where), letters(again))
		}
	}
}

// tied is a problem where nearly all steps gain nothing: bounds are 0, or near it, and many costs are 0.
func (s *scatter) tied(cols, rows int) *linear.Problem {
	p := s.problem(cols, rows)
	for j := range p.Cols {
		p.Cols[j].Cost = ratio.Int(int64(s.around(1)))
		s.tie(&p.Cols[j].Low, &p.Cols[j].High)
	}
	for i := range p.Rows {
		s.tie(&p.Rows[i].Low, &p.Rows[i].High)
	}
	return p
}

func (s *scatter) tie(low, high *linear.Bound) {
	low.At, high.At = ratio.R{}, ratio.Int(int64(s.below(8)/7))
	if s.below(20) == 0 {
		low.At, high.At = ratio.Int(1), ratio.Int(1)
	}
}

// TestTied: steps that gain nothing end, whether one is careful from the first on, or becomes it soon, or late.
func TestTied(t *testing.T) {
	s := scatter(88172645463325252)
	var count kinds
	for range 3000 {
		p := s.tied(1+s.below(8), 1+s.below(8))
		c, where, err := Solve(p)
		if err != nil {
			t.Fatal(err)
		}
		shown(t, p, c, where)
		for _, patience := range []int{-1, 0, 1} {
			table := newTable(p)
			table.tell()
			table.patience = patience
			other := table.claim()
			shown(t, p, other, table.where)
			alike(t, p, c, other)
		}
		count[c.Kind]++
	}
	count.some(t, 50)
}

// TestCareful: chosen carefully alone, steps come to the same.
func TestCareful(t *testing.T) {
	s := scatter(1234567)
	var count kinds
	for range 2000 {
		p := s.problem(s.below(8), s.below(8))
		c, _, err := Solve(p)
		if err != nil {
			t.Fatal(err)
		}
		table := newTable(p)
		table.tell()
		table.patience = -1
		other := table.claim()
		shown(t, p, other, table.where)
		alike(t, p, c, other)
		count[c.Kind]++
	}
	count.some(t, 100)
}
