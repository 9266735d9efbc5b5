package linear

import (
	"errors"
	"testing"

	"optima/api"
	"optima/ratio"
)

func TestSum(t *testing.T) {
	third, two := number(t, "1/3"), number(t, "-2")
	for _, c := range []struct {
		what  string
		terms []Term
		x     []ratio.R
		want  string
	}{
		{"nothing", nil, nil, "0"},
		{"no terms", nil, point(t, "4"), "0"},
		{"one", []Term{{0, third}}, point(t, "4"), "4/3"},
		{"two", []Term{{0, third}, {2, two}}, point(t, "1/2", "9", "5/4"), "-7/3"},
		{"any order, and twice", []Term{{1, two}, {0, third}, {1, two}}, point(t, "3", "1"), "-3"},
		{"columns that the point has not", []Term{{-1, two}, {0, third}, {1, two}}, point(t, "3"), "1"},
	} {
		if got := Sum(c.terms, c.x); got.Text() != c.want {
			t.Errorf("%s: %s, want %s", c.what, got.Text(), c.want)
		}
	}
}

func TestValue(t *testing.T) {
	for _, c := range []struct {
		x    []ratio.R
		want string
	}{
		{point(t, "0", "0"), "7"},
		{point(t, "4", "1"), "43/2"},
		{point(t, "-9", "1/5"), "-39/2"}, // it need not hold
	} {
		if got, err := Value(sample(t), c.x); err != nil || got.Text() != c.want {
			t.Errorf("%s, %v, want %s", got.Text(), err, c.want)
		}
	}
	if got, err := Value(&Problem{Shift: number(t, "2/3")}, nil); err != nil || got.Text() != "2/3" {
		t.Errorf("no columns: %s, %v", got.Text(), err)
	}
}

func TestHolds(t *testing.T) {
	for _, c := range []struct {
		what        string
		x           []ratio.R
		some, whole bool
	}{
		{"within", point(t, "1", "1"), true, true},
		{"the high bounds of a column and a row", point(t, "4", "1"), true, true},
		{"the low bound of a column", point(t, "-1/2", "0"), true, false},
		{"below a column's low bound", point(t, "-2/3", "0"), false, false},
		{"above a column's high bound", point(t, "5", "0"), false, false},
		{"above a row's high bound", point(t, "4", "1001/1000"), false, false},
		{"the low bound of a row", point(t, "0", "3"), true, true},
		{"below a row's low bound", point(t, "-1/2", "31/10"), false, false},
		{"not whole, but it need not be", point(t, "1", "1/2"), true, true},
		{"not whole", point(t, "1/2", "1"), true, false},
		{"far below, where there is no bound", point(t, "0", "-1000000000000000000000000"), true, true},
	} {
		for _, whole := range []bool{false, true} {
			want := c.some
			if whole {
				want = c.whole
			}
			if got, err := Holds(sample(t), c.x, whole); err != nil || got != want {
				t.Errorf("%s (whole: %v): %v, %v", c.what, whole, got, err)
			}
		}
	}
}

func TestHoldsAlone(t *testing.T) {
	p := &Problem{Rows: []Row{{Name: "r", Low: Bound{Has: true, At: number(t, "1")}}}}
	if ok, err := Holds(p, nil, false); ok || err != nil {
		t.Errorf("a row of no terms is 0: %v, %v", ok, err)
	}
	p.Rows[0].Low = Bound{At: number(t, "1")} // it has none, whatever stands there
	if ok, err := Holds(p, nil, false); !ok || err != nil {
		t.Errorf("no bound: %v, %v", ok, err)
	}
	p = &Problem{Cols: []Col{{Name: "x", Low: Bound{Has: true, At: number(t, "1")}, High: Bound{Has: true}}}}
	for _, x := range []string{"0", "1/2", "1"} {
		if ok, err := Holds(p, point(t, x), false); ok || err != nil {
			t.Errorf("crossed bounds at %s: %v, %v", x, ok, err)
		}
	}
}

func TestPointOfAnotherLength(t *testing.T) {
	for _, x := range [][]ratio.R{nil, {}, point(t, "1"), point(t, "1", "1", "1")} {
		value, err := Value(sample(t), x)
		if !errors.Is(err, api.ErrShape) || value.Sign() != 0 {
			t.Errorf("%d numbers: %s, %v", len(x), value.Text(), err)
		}
		ok, err := Holds(sample(t), x, false)
		if !errors.Is(err, api.ErrShape) || ok {
			t.Errorf("%d numbers: %v, %v", len(x), ok, err)
		}
	}
	if _, err := Value(nil, nil); !errors.Is(err, api.ErrShape) {
		t.Errorf("nil: %v", err)
	}
	if _, err := Holds(nil, nil, true); !errors.Is(err, api.ErrShape) {
		t.Errorf("nil: %v", err)
	}
}
