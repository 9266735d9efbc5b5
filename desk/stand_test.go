package desk

import (
	"slices"
	"testing"

	"optima/api"
	"optima/linear"
	"optima/ratio"
	"optima/simplex"
)

func TestPlace(t *testing.T) {
	some := linear.Bound{Has: true}
	for _, c := range []struct {
		at        int
		low, high linear.Bound
		want      int
	}{
		{api.Basic, linear.Bound{}, linear.Bound{}, api.Basic},
		{api.Basic, some, some, api.Basic},
		{api.Low, some, some, api.Low},
		{api.High, some, some, api.High},
		{api.Loose, linear.Bound{}, linear.Bound{}, api.Loose},
		{api.Low, linear.Bound{}, some, api.High},
		{api.High, some, linear.Bound{}, api.Low},
		{api.Low, linear.Bound{}, linear.Bound{}, api.Loose},
		{api.High, linear.Bound{}, linear.Bound{}, api.Loose},
		{api.Loose, some, some, api.Low},
		{api.Loose, linear.Bound{}, some, api.High},
	} {
		if got := place(c.at, c.low, c.high); got != c.want {
			t.Errorf("%d with %v, %v: %d, want %d", c.at, c.low.Has, c.high.Has, got, c.want)
		}
	}
}

// TestSetsOut: a look begins where the last one ended, as far as that is a basis of the changed problem.
func TestSetsOut(t *testing.T) {
	ended := []int{api.High, api.Basic, api.High}
	for _, c := range []struct {
		name   string
		change func(d *Desk) error
		want   []int
		basis  bool
	}{
		{"nothing", func(d *Desk) error { return nil }, ended, true},
		{"Cost", func(d *Desk) error { return d.Cost("x", ratio.Int(1)) }, ended, true},
		{"Bounds", func(d *Desk) error { return d.Bounds("x", bound("1"), bound("")) }, []int{api.Low, api.Basic, api.High}, true},
		{"Turn", func(d *Desk) error { d.Turn(); return nil }, ended, true},
		{"Col", func(d *Desk) error { return d.Col(linear.Col{Name: "one", High: bound("1")}) }, []int{api.High, api.Basic, api.High, api.High}, true},
		{"Row", func(d *Desk) error {
			return d.Row(linear.Row{Name: "x", Terms: []linear.Term{{Col: 1, By: ratio.Int(1)}}})
		}, []int{api.High, api.Basic, api.High, api.Basic}, true},
		{"Drop", func(d *Desk) error { return d.Drop("one") }, []int{api.High, api.Basic}, false},
	} {
		d := deskOf(t, first())
		best(t, d, api.Best, "17")
		if _, where := d.Solve(); !slices.Equal(where, ended) {
			t.Fatalf("it ended at %v", where)
		}
		must(t, c.change(d))
		where := d.last.in(d.now)
		_, err := simplex.FrameOf(d.now, where)
		if !slices.Equal(where, c.want) || (err == nil) != c.basis {
			t.Errorf("%s: %v, %v", c.name, where, err)
		}
		shown(t, d)
	}
}

// TestNoLongerFollow: as many are Basic as before, but a row in place of another one says something else, so that the look begins anew.
func TestNoLongerFollow(t *testing.T) {
	d := deskOf(t, first())
	best(t, d, api.Best, "17")
	must(t, d.Drop("one"))
	must(t, d.Row(linear.Row{Name: "one", High: bound("2"), Terms: []linear.Term{{Col: 0, By: ratio.Int(1)}}}))
	if _, err := simplex.FrameOf(d.now, d.last.in(d.now)); err != api.ErrBasis {
		t.Fatalf("it is a basis (%v)", err)
	}
	best(t, d, api.Best, "26")
}

// TestBeginsWhereItEnded: of two points that are as good as each other a look finds the one that was better by the look ahead of it.
func TestBeginsWhereItEnded(t *testing.T) {
	spec := first()
	spec.Cols[0].Cost, spec.Cols[1].Cost = "1", "1"
	spec.Rows[0] = api.RowSpec{Name: "one", High: "4", Cols: []int{0, 1}, By: []string{"1", "1"}}
	d := deskOf(t, spec)
	for _, c := range []struct{ name, x, y string }{{"x", "4", "0"}, {"y", "0", "4"}, {"x", "4", "0"}} {
		for _, cost := range []int64{2, 1} {
			must(t, d.Cost(c.name, ratio.Int(cost)))
			shown(t, d)
			if claim, _ := d.Solve(); claim.X[0].Text() != c.x || claim.X[1].Text() != c.y {
				t.Errorf("%s costs %d: %s, %s", c.name, cost, claim.X[0].Text(), claim.X[1].Text())
			}
		}
	}
}
