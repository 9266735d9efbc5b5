package linear

import (
	"errors"
	"strconv"
	"testing"

	"optima/api"
	"optima/ratio"
)

// scatter makes texts out of a fixed rule.
type scatter uint64

func (s *scatter) below(n int) int {
	*s ^= *s << 13
	*s ^= *s >> 7
	*s ^= *s << 17
	return int(uint64(*s) % uint64(n))
}

func (s *scatter) among(texts ...string) string { return texts[s.below(len(texts))] }

// expression has the variables x, y[1] to y[3], the param p, and of the names a to d those that are bound.
func (s *scatter) expression(left, bound int) string {
	if left <= 0 {
		return s.leaf(bound)
	}
	a := func() string { return s.expression(left-1, bound) }
	switch s.below(9) {
	case 0:
		return s.leaf(bound)
	case 1, 2:
		return "(" + a() + " + " + a() + ")"
	case 3:
		return "(" + a() + " - " + a() + ")"
	case 4:
		return a() + " * " + s.among("p", "-2", "0", "(x - x + 3)", s.leaf(bound))
	case 5:
		return a() + " / " + s.among("2", "(p - 1)", "(-0.75)", s.leaf(bound))
	case 6:
		return "-" + s.leaf(bound)
	case 7:
		if bound == 4 {
			return s.leaf(bound)
		}
		name := "abcd"[bound : bound+1]
		return "sum{" + name + " in " + s.among("1 .. 3", "{2, 3}", "3 .. 1", "{}", "{1} union {3}") + s.among("", " : "+name+" <> 2", " : "+name+" >= 2") + "} (" + s.expression(left-1, bound+1) + ")"
	}
	return "(if " + s.among("p", "1", "x - x") + s.among(" = ", " < ", " >= ") + s.among("2", "1") + " then " + a() + " else " + a() + ")"
}

func (s *scatter) leaf(bound int) string {
	if bound > 0 && s.below(2) == 0 {
		name := "abcd"[s.below(bound):][:1]
		return s.among(name, "y["+name+"]", "y[4 - "+name+"]")
	}
	return s.among("x", "y[1]", "y[2]", "y[3]", "1", "0.5", "p")
}

// TestVariablesAsParams: an expression of columns comes, at a point, to what it comes to when its variables are that point's numbers.
func TestVariablesAsParams(t *testing.T) {
	points := [][]string{{"0", "0", "0", "0"}, {"1", "2", "3", "5"}, {"-2", "0.5", "7", "-0.25"}}
	s := scatter(88172645463325252)
	sense, nonsense := 0, 0
	for range 3000 {
		expression := s.expression(1+s.below(5), 0)
		p, err := Expand(tree(t, "param p = 2; var x; var y{i in 1 .. 3}; minimize z: "+expression+";"))
		if err != nil {
			var fault *api.Fault
			if !errors.As(err, &fault) || fault.At != 3 {
				t.Fatalf("%s: %v", expression, err)
			}
			nonsense++
			continue
		}
		sense++
		for _, c := range points {
			var x []ratio.R
			for _, text := range c {
				x = append(x, number(t, text))
			}
			value, err := Value(p, x)
			q, err2 := Expand(tree(t, "param p = 2; param x = "+c[0]+"; param y{i in 1 .. 3} : [1] "+c[1]+" [2] "+c[2]+" [3] "+c[3]+"; minimize z: "+expression+";"))
			if err != nil || err2 != nil || value.Cmp(q.Shift) != 0 {
				t.Fatalf("%s: %s, %v, %v", expression, value.Text(), err, err2)
			}
		}
	}
	if sense < 500 || nonsense < 200 {
		t.Errorf("%d with sense, %d without", sense, nonsense)
	}
}

// TestRowsAsGoals: a row has the columns of its sums, and a bound where both are the same.
func TestRowsAsGoals(t *testing.T) {
	const ahead = "param p = 2; var x; var y{i in 1 .. 3}; "
	s := scatter(362436069)
	for i := range 500 {
		first, second := s.expression(s.below(4), 0), s.expression(s.below(4), 0)
		a, err := Expand(tree(t, ahead+"minimize z: "+first+";"))
		b, err2 := Expand(tree(t, ahead+"minimize z: "+second+";"))
		sign := s.among("<=", ">=", "=")
		p, err3 := Expand(tree(t, ahead+"subject r: "+first+" "+sign+" "+second+"; subject m: -"+strconv.Itoa(i)+" <= "+first+" <= 1/2;"))
		if err != nil || err2 != nil {
			if err3 == nil {
				t.Fatalf("%s, %s: a row of what has no sense", first, second)
			}
			continue
		}
		if err3 != nil {
			t.Fatalf("%s, %s: %v", first, second, err3)
		}
		checkRow(t, p.Rows[0], a, b, sign)
		x := point(t, "3", "-1/7", "11", "1/2")
		value, _ := Value(a, x)
		m := p.Rows[1]
		left := value.Sub(Sum(m.Terms, x))
		if m.Low.At.Add(left).Cmp(ratio.Int(-int64(i))) != 0 || m.High.At.Add(left).Text() != "1/2" || !m.Low.Has || !m.High.Has {
			t.Fatalf("%s: %v", first, m)
		}
	}
}

func checkRow(t *testing.T, row Row, a, b *Problem, sign string) {
	t.Helper()
	at := 0
	for i := range a.Cols {
		by := a.Cols[i].Cost.Sub(b.Cols[i].Cost)
		if by.Sign() == 0 {
			continue
		}
		if at == len(row.Terms) || row.Terms[at].Col != i || row.Terms[at].By.Cmp(by) != 0 {
			t.Fatalf("column %d of %v", i, row)
		}
		at++
	}
	bound := b.Shift.Sub(a.Shift)
	if at != len(row.Terms) || row.Low.Has != (sign != "<=") || row.High.Has != (sign != ">=") ||
		row.Low.Has && row.Low.At.Cmp(bound) != 0 || row.High.Has && row.High.At.Cmp(bound) != 0 {
		t.Fatalf("%v %s", row, sign)
	}
}
