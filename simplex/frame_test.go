package simplex

import (
	"slices"
	"testing"

	"optima/api"
	"optima/linear"
	"optima/matrix"
	"optima/ratio"
)

func TestFrameByHand(t *testing.T) {
	p := problem(t, "var x >= 0 <= 4; var y >= 0 <= 4; var w; maximize z: 3 * x + 5 * y - w + 9; subject one: x + 2 * y <= 6; subject two: x - w >= -1/2;")
	for _, c := range []struct {
		where, x, cost string
		basic          []int
		by             []string
	}{
		{"LH-BB", "0 4 0 8 0", "3 5 -1 0 0", []int{3, 4}, []string{"1 2 0 0 0", "1 0 -1 0 0"}},
		{"LB-HB", "0 3 0 6 0", "1/2 0 -1 5/2 0", []int{1, 4}, []string{"-1/2 0 0 1/2 0", "1 0 -1 0 0"}},
		{"HBBHL", "4 1 9/2 6 -1/2", "-1/2 0 0 5/2 1", []int{1, 2}, []string{"-1/2 0 0 1/2 0", "1 0 0 0 -1"}},
		{"BL-HB", "6 0 0 6 6", "0 -1 -1 3 0", []int{0, 4}, []string{"0 -2 0 1 0", "0 -2 -1 1 0"}},
		{"BB-HL", "-1/2 13/4 0 6 -1/2", "0 0 -1/2 5/2 1/2", []int{0, 1}, []string{"0 0 1 0 1", "0 0 -1/2 1/2 -1/2"}},
	} {
		f, err := FrameOf(p, stands(c.where))
		if err != nil || !slices.Equal(f.Basic, c.basic) || texts(f.X) != c.x || texts(f.Cost) != c.cost || len(f.By) != len(c.by) {
			t.Fatalf("%s: %+v, %v", c.where, f, err)
		}
		for i, by := range c.by {
			if texts(f.By[i]) != by {
				t.Errorf("%s: line %d: %s", c.where, i, texts(f.By[i]))
			}
		}
	}
}

func TestFrameOfNoRows(t *testing.T) {
	f, err := FrameOf(problem(t, "var x >= 2; var y; maximize z: 3 * x + y;"), stands("L-"))
	if err != nil || len(f.Basic) != 0 || len(f.By) != 0 || texts(f.X) != "2 0" || texts(f.Cost) != "3 1" {
		t.Errorf("%+v, %v", f, err)
	}
	f, err = FrameOf(problem(t, ""), nil)
	if err != nil || len(f.Basic)+len(f.By)+len(f.X)+len(f.Cost) != 0 {
		t.Errorf("%+v, %v", f, err)
	}
	f, err = FrameOf(problem(t, "subject r: 0 >= 1;"), stands("B"))
	if err != nil || len(f.By) != 1 || texts(f.By[0]) != "0" || texts(f.X) != "0" || texts(f.Cost) != "0" {
		t.Errorf("%+v, %v", f, err)
	}
}

// isBasis says by the words of P80 whether where is one: that the Basic columns follow is asked of a determinant.
func isBasis(t *testing.T, p *linear.Problem, where []int) bool {
	t.Helper()
	if len(where) != len(p.Cols)+len(p.Rows) {
		return false
	}
	var basics []int
	for col, at := range where {
		low, high := sides(p, col)
		switch at {
		case api.Basic:
			basics = append(basics, col)
		case api.Low:
			if !low.Has {
				return false
			}
		case api.High:
			if !high.Has {
				return false
			}
		case api.Loose:
			if low.Has || high.Has {
				return false
			}
		default:
			return false
		}
	}
	if len(basics) != len(p.Rows) {
		return false
	}
	a := make([][]ratio.R, len(p.Rows))
	for i := range a {
		for _, col := range basics {
			a[i] = append(a[i], entry(p, i, col))
		}
	}
	_, err := matrix.Factor(a)
	if err != nil && err != api.ErrSingular {
		t.Fatal(err)
	}
	return err == nil
}

func sides(p *linear.Problem, col int) (low, high linear.Bound) {
	if col < len(p.Cols) {
		return p.Cols[col].Low, p.Cols[col].High
	}
	row := p.Rows[col-len(p.Cols)]
	return row.Low, row.High
}

// entry is the number of a column in the equation that a row's terms, less its sum, are 0.
func entry(p *linear.Problem, row, col int) ratio.R {
	if col == len(p.Cols)+row {
		return ratio.Int(-1)
	}
	for _, term := range p.Rows[row].Terms {
		if term.Col == col {
			return term.By
		}
	}
	return ratio.R{}
}

// framed holds a frame against the words of P82: when one column that is not Basic moves by 1, and the Basic ones as By says, each row's sum stays that of its terms, and Cost is what that costs.
func framed(t *testing.T, p *linear.Problem, where []int, f *Frame) {
	t.Helper()
	all := len(where)
	if len(f.X) != all || len(f.Cost) != all || len(f.By) != len(f.Basic) || len(f.Basic) != len(p.Rows) || !slices.IsSorted(f.Basic) {
		t.Fatalf("%+v, %s: %+v", p, letters(where), f)
	}
	keeps := func(x []ratio.R) bool {
		for i, row := range p.Rows {
			if linear.Sum(row.Terms, x).Cmp(x[len(p.Cols)+i]) != 0 {
				return false
			}
		}
		return true
	}
	for col, at := range where {
		low, high := sides(p, col)
		if at == api.Low && f.X[col].Cmp(low.At) != 0 || at == api.High && f.X[col].Cmp(high.At) != 0 || at == api.Loose && f.X[col].Sign() != 0 {
			t.Fatalf("%+v, %s: column %d is worth %s", p, letters(where), col, f.X[col].Text())
		}
		step := make([]ratio.R, all)
		for i, basic := range f.Basic {
			if len(f.By[i]) != all || where[basic] != api.Basic {
				t.Fatalf("%+v, %s: %+v", p, letters(where), f)
			}
			step[basic] = f.By[i][col]
		}
		if at == api.Basic {
			if slices.ContainsFunc(step, func(r ratio.R) bool { return r.Sign() != 0 }) || f.Cost[col].Sign() != 0 {
				t.Fatalf("%+v, %s: the Basic column %d has numbers", p, letters(where), col)
			}
			continue
		}
		step[col] = ratio.Int(1)
		var cost ratio.R
		for j, c := range p.Cols {
			cost = cost.Add(c.Cost.Mul(step[j]))
		}
		if !keeps(step) || cost.Cmp(f.Cost[col]) != 0 {
			t.Fatalf("%+v, %s: column %d: %s, cost %s", p, letters(where), col, texts(step), f.Cost[col].Text())
		}
	}
	if !keeps(f.X) {
		t.Fatalf("%+v, %s: %s", p, letters(where), texts(f.X))
	}
}

// TestFramesEverywhere: of small problems each list that there is, bases and others.
func TestFramesEverywhere(t *testing.T) {
	s := scatter(17)
	bases, others := 0, 0
	for range 160 {
		p := s.problem(s.below(3), s.below(3))
		for _, where := range everywhere(len(p.Cols) + len(p.Rows)) {
			want := isBasis(t, p, where)
			f, err := FrameOf(p, where)
			if want != (err == nil) || !want && (err != api.ErrBasis || f != nil) {
				t.Fatalf("%+v, %v: %v", p, where, err)
			}
			if !want {
				others++
				continue
			}
			bases++
			framed(t, p, where, f)
		}
	}
	if bases < 200 || others < 1000 {
		t.Errorf("%d bases, %d others", bases, others)
	}
}

// TestFramesScattered: greater ones, at lists that are nearly bases.
func TestFramesScattered(t *testing.T) {
	s := scatter(99)
	bases, others := 0, 0
	for range 1500 {
		p := s.problem(1+s.below(7), 1+s.below(7))
		where := s.where(p)
		want := isBasis(t, p, where)
		f, err := FrameOf(p, where)
		if want != (err == nil) {
			t.Fatalf("%+v, %s: %v", p, letters(where), err)
		}
		if !want {
			others++
			continue
		}
		bases++
		framed(t, p, where, f)
	}
	if bases < 300 || others < 300 {
		t.Errorf("%d bases, %d others", bases, others)
	}
}
