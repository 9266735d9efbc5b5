package matrix

import (
	"testing"

	"optima/api"
	"optima/ratio"
)

// checkUndo holds Solve and Left against the table itself, for each unit list and a mixed one.
func checkUndo(t *testing.T, f *LU, a [][]ratio.R) {
	t.Helper()
	if f.Size() != len(a) {
		t.Fatalf("%s: Size %d", told(a), f.Size())
	}
	sides := sized(len(a), len(a))
	mixed := make([]ratio.R, len(a))
	for i := range mixed {
		mixed[i], _ = ratio.Int(int64(3*i - 4)).Quo(ratio.Int(int64(i + 2)))
	}
	for _, side := range append(sides, mixed) {
		x, err := f.Solve(side)
		if err != nil || len(x) != len(a) {
			t.Fatalf("%s: Solve: %v", told(a), err)
		}
		y, err := f.Left(side)
		if err != nil || len(y) != len(a) {
			t.Fatalf("%s: Left: %v", told(a), err)
		}
		for i := range a {
			along, down := ratio.R{}, ratio.R{}
			for j := range a {
				along = along.Add(a[i][j].Mul(x[j]))
				down = down.Add(y[j].Mul(a[j][i]))
			}
			if along.Cmp(side[i]) != 0 {
				t.Fatalf("%s: Solve of %s: %s", told(a), textOf(side), textOf(x))
			}
			if down.Cmp(side[i]) != 0 {
				t.Fatalf("%s: Left of %s: %s", told(a), textOf(side), textOf(y))
			}
		}
	}
}

// replaced is the table with another column.
func replaced(a [][]ratio.R, col int, by []ratio.R) [][]ratio.R {
	out := make([][]ratio.R, len(a))
	for i, row := range a {
		out[i] = append(out[i], row...)
		out[i][col] = by[i]
	}
	return out
}

// checkFactor holds what an LU, or the error in its place, says against the school's way; it is whether there is one.
func checkFactor(t *testing.T, f *LU, err error, a [][]ratio.R) bool {
	t.Helper()
	_, det := eliminate(rats(a))
	if det.Sign() == 0 {
		if err != api.ErrSingular || f != nil {
			t.Fatalf("%s: %v, want ErrSingular", told(a), err)
		}
		return false
	}
	if err != nil || f.Det().Text() != det.RatString() {
		t.Fatalf("%s: %v, want the determinant %s", told(a), err, det)
	}
	checkUndo(t, f, a)
	return true
}

func TestFactorByHand(t *testing.T) {
	for _, c := range []struct{ in, det string }{
		{"", "1"}, {"5", "5"}, {"-2/3", "-2/3"}, {"0 1|1 0", "-1"}, {"0 0 1|1 0 0|0 1 0", "1"},
		{"1/2 1/3|1/5 1/7", "1/210"}, {"10 20|30 50", "-100"}, {"0 2 1|1 0 0|3 1 1", "-1"},
	} {
		f, err := Factor(at(t, c.in))
		if err != nil || f.Det().Text() != c.det {
			t.Fatalf("%q: %v", c.in, err)
		}
		checkFactor(t, f, err, at(t, c.in))
	}
}

func TestFactorScattered(t *testing.T) {
	s := scatter(3)
	undone := 0
	for n := range 400 {
		a := s.table(1+n%6, 1+n%6)
		f, err := Factor(a)
		if checkFactor(t, f, err, a) {
			undone++
		}
	}
	if undone < 100 || undone > 300 {
		t.Errorf("%d of 400 are no mixture", undone)
	}
}

// TestReplaceScattered: chains of columns that come and go, with a side branch at each, and the one ahead as it was.
func TestReplaceScattered(t *testing.T) {
	s := scatter(4)
	for n := range 60 {
		size := 1 + n%5
		a := sized(size, size)
		f, err := Factor(a)
		checkFactor(t, f, err, a)
		for range 12 {
			col, next, other := s.below(size), column(s.table(size, 1), 0), column(s.table(size, 1), 0)
			g, err := f.Replace(col, next)
			more := checkFactor(t, g, err, replaced(a, col, next))
			side, err := f.Replace(size-1, other)
			checkFactor(t, side, err, replaced(a, size-1, other))
			checkFactor(t, f, nil, a)
			if more {
				checkFactor(t, g, nil, replaced(a, col, next))
				f, a = g, replaced(a, col, next)
			}
		}
	}
}

func TestFactorOfOtherShapes(t *testing.T) {
	for _, in := range []string{" ", " | ", "1 2", "1|2", "1 2 3|4 5 6"} {
		if f, err := Factor(at(t, in)); err != api.ErrShape || f != nil {
			t.Errorf("%q: %v", in, err)
		}
	}
	for _, in := range []string{"0", "1 2|2 4", "0 0|0 0", "1 0 1|0 1 1|1 1 2", "1 0|5 0"} {
		if f, err := Factor(at(t, in)); err != api.ErrSingular || f != nil {
			t.Errorf("%q: %v", in, err)
		}
	}
}

func TestWrongLists(t *testing.T) {
	f, err := Factor(at(t, "1 2|3 5"))
	if err != nil {
		t.Fatal(err)
	}
	for _, l := range []string{"", "1", "1 2 3"} {
		if x, err := f.Solve(list(t, l)); err != api.ErrShape || x != nil {
			t.Errorf("Solve of %q: %v", l, err)
		}
		if y, err := f.Left(list(t, l)); err != api.ErrShape || y != nil {
			t.Errorf("Left of %q: %v", l, err)
		}
		if g, err := f.Replace(0, list(t, l)); err != api.ErrShape || g != nil {
			t.Errorf("Replace by %q: %v", l, err)
		}
	}
	for _, col := range []int{-1, 2, 1 << 62, -1 << 63} {
		if g, err := f.Replace(col, list(t, "1 1")); err != api.ErrShape || g != nil {
			t.Errorf("Replace of %d: %v", col, err)
		}
	}
	if g, err := f.Replace(1, list(t, "2 6")); err != api.ErrSingular || g != nil {
		t.Errorf("Replace by the other column: %v", err)
	}
	if g, err := f.Replace(5, list(t, "0 0")); err != api.ErrShape || g != nil {
		t.Errorf("no such column, and singular: %v", err)
	}
}

func TestNoRows(t *testing.T) {
	f, err := Factor([][]ratio.R{})
	if err != nil || f.Size() != 0 || f.Det().Text() != "1" {
		t.Fatal(err)
	}
	if x, err := f.Solve(nil); err != nil || len(x) != 0 {
		t.Error("Solve", err)
	}
	if y, err := f.Left([]ratio.R{}); err != nil || len(y) != 0 {
		t.Error("Left", err)
	}
	if x, err := f.Solve(list(t, "1")); err != api.ErrShape || x != nil {
		t.Error("Solve of one", err)
	}
	if g, err := f.Replace(0, nil); err != api.ErrShape || g != nil {
		t.Error("Replace", err)
	}
}

// TestNone: the nil that stands beside an error is given by a call too, so that asking it must not panic.
func TestNone(t *testing.T) {
	f, _ := Factor(at(t, "0"))
	if f.Size() != 0 || f.Det().Sign() != 0 {
		t.Error("Size, Det")
	}
	if x, err := f.Solve(nil); err != api.ErrShape || x != nil {
		t.Error("Solve", err)
	}
	if y, err := f.Left(nil); err != api.ErrShape || y != nil {
		t.Error("Left", err)
	}
	if g, err := f.Replace(0, nil); err != api.ErrShape || g != nil {
		t.Error("Replace", err)
	}
}

// TestLUMemory: what is handed over may be changed behind it, and so may what is answered.
func TestLUMemory(t *testing.T) {
	a, b := at(t, "2 1|1 1"), list(t, "3 2")
	kept := told(a)
	f, err := Factor(a)
	if err != nil {
		t.Fatal(err)
	}
	next := list(t, "1 5")
	g, err := f.Replace(1, next)
	if err != nil {
		t.Fatal(err)
	}
	x, _ := f.Solve(b)
	y, _ := f.Left(b)
	if told(a) != kept || textOf(b) != "3 2" || textOf(next) != "1 5" || textOf(x) != "1 1" || textOf(y) != "1 1" {
		t.Errorf("%s, %s, %s, %s, %s", told(a), textOf(b), textOf(next), textOf(x), textOf(y))
	}
	for _, row := range append(a, b, next, x, y) {
		for i := range row {
			row[i] = ratio.Int(77)
		}
	}
	checkFactor(t, f, nil, at(t, "2 1|1 1"))
	checkFactor(t, g, nil, at(t, "2 1|1 5"))
}
