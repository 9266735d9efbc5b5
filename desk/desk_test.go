package desk

import (
	"strconv"
	"testing"

	"optima/api"
	"optima/linear"
	"optima/plain"
	"optima/ratio"
)

// first is the document's example: 17, at 4 and 1.
func first() api.Spec {
	return api.Spec{Max: true, Shift: "0", Cols: []api.ColSpec{
		{Name: "x", Low: "0", High: "4", Cost: "3"},
		{Name: "y", Low: "0", High: "4", Cost: "5"},
	}, Rows: []api.RowSpec{
		{Name: "one", High: "6", Cols: []int{0, 1}, By: []string{"1", "2"}},
	}}
}

func deskOf(t *testing.T, s api.Spec) *Desk {
	t.Helper()
	p, ok := plain.Problem(s)
	if !ok {
		t.Fatalf("%+v", s)
	}
	d, err := New(p)
	if err != nil {
		t.Fatal(err)
	}
	return d
}

// is sees to it that the problem is that one.
func is(t *testing.T, d *Desk, want api.Spec) {
	t.Helper()
	if now := plain.Spec(d.Problem()); said(now) != said(want) {
		t.Fatalf("%s, want %s", said(now), said(want))
	}
}

// best sees to it that the solution shows itself, and is of that kind and value.
func best(t *testing.T, d *Desk, kind int, value string) {
	t.Helper()
	shown(t, d)
	if c, _ := d.Solve(); c.Kind != kind || c.Value.Text() != value {
		t.Errorf("%+v, want %d, %s", plain.ClaimSpec(c), kind, value)
	}
}

// must sees to it that a change goes well.
func must(t *testing.T, err error) {
	t.Helper()
	if err != nil {
		t.Fatal(err)
	}
}

// TestEachChange: what it makes of the problem, that one Undo brings back what was there, and that another one does not bring it again.
func TestEachChange(t *testing.T) {
	for _, c := range []struct {
		name   string
		change func(d *Desk) error
		want   func(s *api.Spec)
		kind   int
		value  string
	}{
		{"Cost", func(d *Desk) error { return d.Cost("y", ratio.Int(7)) }, func(s *api.Spec) { s.Cols[1].Cost = "7" }, api.Best, "21"},
		{"Cost 0", func(d *Desk) error { return d.Cost("x", ratio.R{}) }, func(s *api.Spec) { s.Cols[0].Cost = "0" }, api.Best, "15"},
		{"the same Cost", func(d *Desk) error { return d.Cost("x", ratio.Int(3)) }, func(s *api.Spec) {}, api.Best, "17"},
		{"Bounds", func(d *Desk) error { return d.Bounds("x", bound("1/2"), bound("2")) }, func(s *api.Spec) { s.Cols[0].Low, s.Cols[0].High = "1/2", "2" }, api.Best, "16"},
		{"no Bounds", func(d *Desk) error { return d.Bounds("x", bound(""), bound("")) }, func(s *api.Spec) { s.Cols[0].Low, s.Cols[0].High = "", "" }, api.Best, "18"},
		{"Bounds that cross", func(d *Desk) error { return d.Bounds("y", bound("3"), bound("2")) }, func(s *api.Spec) { s.Cols[1].Low, s.Cols[1].High = "3", "2" }, api.None, "0"},
		{"Turn", func(d *Desk) error { d.Turn(); return nil }, func(s *api.Spec) { s.Max = false }, api.Best, "0"},
		{"Col", func(d *Desk) error {
			return d.Col(linear.Col{Name: "w", Whole: true, Low: bound("-1"), High: bound("5/2"), Cost: ratio.Int(2)})
		}, func(s *api.Spec) {
			s.Cols = append(s.Cols, api.ColSpec{Name: "w", Whole: true, Low: "-1", High: "5/2", Cost: "2"})
		}, api.Best, "22"},
		{"Col without an end", func(d *Desk) error { return d.Col(linear.Col{Name: "one", Cost: ratio.Int(-1)}) }, func(s *api.Spec) {
			s.Cols = append(s.Cols, api.ColSpec{Name: "one", Cost: "-1"})
		}, api.Endless, "0"},
		{"Row", func(d *Desk) error {
			return d.Row(linear.Row{Name: "two", Low: bound("-1"), High: bound("1"), Terms: []linear.Term{{Col: 0, By: ratio.Int(1)}, {Col: 1, By: ratio.Int(-1)}}})
		}, func(s *api.Spec) {
			s.Rows = append(s.Rows, api.RowSpec{Name: "two", Low: "-1", High: "1", Cols: []int{0, 1}, By: []string{"1", "-1"}})
		}, api.Best, "49/3"},
		{"Row of no terms", func(d *Desk) error { return d.Row(linear.Row{Name: "x", Low: bound("1")}) }, func(s *api.Spec) {
			s.Rows = append(s.Rows, api.RowSpec{Name: "x", Low: "1"})
		}, api.None, "0"},
		{"Drop", func(d *Desk) error { return d.Drop("one") }, func(s *api.Spec) { s.Rows = nil }, api.Best, "32"},
	} {
		for _, looked := range []bool{false, true} { // whether there is a look that the next one may set out from
			d := deskOf(t, first())
			if looked {
				best(t, d, api.Best, "17")
			}
			want := first()
			c.want(&want)
			must(t, c.change(d))
			is(t, d, want)
			best(t, d, c.kind, c.value)
			if !d.Undo() {
				t.Errorf("%s is not undone", c.name)
			}
			is(t, d, first())
			best(t, d, api.Best, "17")
			if d.Undo() {
				t.Errorf("%s: there is nothing else", c.name)
			}
			is(t, d, first())
		}
	}
}

func TestNew(t *testing.T) {
	twice := first()
	twice.Cols[1].Name = "x"
	off := first()
	off.Rows[0].Cols[1] = 2
	for _, c := range []struct {
		spec api.Spec
		want error
	}{{twice, api.ErrName}, {off, api.ErrShape}} {
		p, _ := plain.Problem(c.spec)
		if d, err := New(p); d != nil || err != c.want {
			t.Errorf("%+v: %v, %v", c.spec, d, err)
		}
	}
	if d, err := New(nil); d != nil || err != api.ErrShape {
		t.Errorf("nil: %v, %v", d, err)
	}
	if d, err := New(&linear.Problem{Cols: make([]linear.Col, api.MaxCols+1)}); d != nil || err != api.ErrBound {
		t.Errorf("%v, %v", d, err)
	}
	d := deskOf(t, api.Spec{Shift: "1/2"})
	is(t, d, api.Spec{Shift: "1/2"})
	best(t, d, api.Best, "1/2")
}

// TestRefused: what is refused changes nothing, and leaves nothing to be undone.
func TestRefused(t *testing.T) {
	one := ratio.Int(1)
	terms := func(l ...linear.Term) error {
		return deskOf(t, first()).Row(linear.Row{Name: "r", Terms: l})
	}
	for i, err := range []error{terms(linear.Term{Col: -1, By: one}), terms(linear.Term{Col: 2, By: one}), terms(linear.Term{Col: 1}), terms(linear.Term{Col: 1, By: one}, linear.Term{By: one}), terms(linear.Term{By: one}, linear.Term{By: one})} {
		if err != api.ErrShape {
			t.Errorf("terms %d: %v", i, err)
		}
	}
	d := deskOf(t, first())
	for i, err := range []error{
		d.Cost("", one), d.Cost("z", one), d.Cost("one", one), d.Cost("X", one), // a row's name is no column's
		d.Bounds("", bound(""), bound("")), d.Bounds("one", bound("0"), bound("1")),
		d.Drop(""), d.Drop("x"), d.Drop("two"),
		d.Col(linear.Col{}), d.Col(linear.Col{Name: "y"}),
		d.Row(linear.Row{}), d.Row(linear.Row{Name: "one"}),
		d.Row(linear.Row{Name: "one", Terms: []linear.Term{{Col: 9, By: one}}}), // names are told ahead of terms
	} {
		if err != api.ErrName {
			t.Errorf("%d: %v", i, err)
		}
	}
	is(t, d, first())
	if d.Undo() {
		t.Error("nothing was changed")
	}
	best(t, d, api.Best, "17")
}

// TestRefusedBetween: a change that is refused is none that Undo speaks of.
func TestRefusedBetween(t *testing.T) {
	d := deskOf(t, first())
	must(t, d.Cost("x", ratio.Int(1)))
	if d.Cost("z", ratio.Int(2)) == nil || d.Row(linear.Row{Name: "one"}) == nil {
		t.Error("not refused")
	}
	if !d.Undo() {
		t.Error("Undo")
	}
	is(t, d, first())
	if d.Undo() {
		t.Error("there was one change")
	}
}

// TestMost: as many columns and rows as there may be, and one more of each; that is told ahead of what is wrong with names and terms.
func TestMost(t *testing.T) {
	d := deskOf(t, api.Spec{Max: true, Shift: "0"})
	for i := range api.MaxCols {
		must(t, d.Col(linear.Col{Name: strconv.Itoa(i), Low: bound("0"), High: bound("1"), Cost: ratio.Int(1)}))
	}
	for i := range api.MaxRows {
		must(t, d.Row(linear.Row{Name: strconv.Itoa(i), High: bound("1"), Terms: []linear.Term{{Col: i, By: ratio.Int(2)}}}))
	}
	best(t, d, api.Best, "60")
	for i, err := range []error{
		d.Col(linear.Col{Name: "more"}), d.Col(linear.Col{Name: "0"}), d.Col(linear.Col{}),
		d.Row(linear.Row{Name: "more"}), d.Row(linear.Row{}), d.Row(linear.Row{Name: "more", Terms: []linear.Term{{Col: -1}}}),
	} {
		if err != api.ErrBound {
			t.Errorf("%d: %v", i, err)
		}
	}
	must(t, d.Drop("7"))
	best(t, d, api.Best, "121/2")
	must(t, d.Row(linear.Row{Name: "7", High: bound("0"), Terms: []linear.Term{{Col: 7, By: ratio.Int(1)}}}))
	best(t, d, api.Best, "119/2")
	for range api.MaxCols + api.MaxRows + 2 {
		if !d.Undo() {
			t.Fatal("Undo")
		}
	}
	is(t, d, api.Spec{Max: true, Shift: "0"})
	if d.Undo() {
		t.Error("there is no change left")
	}
}

// TestDropKeepsElder: the lists that a row has left, and those that Undo brings back, do not run into each other.
func TestDropKeepsElder(t *testing.T) {
	for _, goes := range []string{"a", "b", "c"} {
		start := first()
		start.Rows = nil
		var left []api.RowSpec
		for i, name := range []string{"a", "b", "c"} {
			row := api.RowSpec{Name: name, High: strconv.Itoa(i + 1), Cols: []int{0}, By: []string{"1"}}
			start.Rows = append(start.Rows, row)
			if name != goes {
				left = append(left, row)
			}
		}
		d := deskOf(t, start)
		must(t, d.Drop(goes))
		want := first()
		want.Rows = left
		is(t, d, want)
		for range 2 {
			must(t, d.Row(linear.Row{Name: "new", High: bound("9")}))
			must(t, d.Row(linear.Row{Name: "newer", High: bound("8")}))
			if !d.Undo() || !d.Undo() {
				t.Error("Undo")
			}
			is(t, d, want)
		}
		if !d.Undo() {
			t.Error("Undo")
		}
		is(t, d, start)
	}
}

// TestUndoneIsNotDoneAgain: behind an Undo a new change takes the place of the one that was undone.
func TestUndoneIsNotDoneAgain(t *testing.T) {
	d := deskOf(t, first())
	must(t, d.Cost("x", ratio.Int(1)))
	must(t, d.Cost("x", ratio.Int(2)))
	if !d.Undo() {
		t.Error("Undo")
	}
	want := first()
	want.Cols[0].Cost = "1"
	is(t, d, want)
	must(t, d.Cost("y", ratio.Int(9)))
	for _, cost := range []string{"1", "3"} {
		if !d.Undo() {
			t.Error("Undo")
		}
		want.Cols[0].Cost = cost
		is(t, d, want)
	}
	for range 2 {
		if d.Undo() {
			t.Error("there is no change left")
		}
	}
}

// TestGivenIsNotKept: what was given to a call may be written into behind it.
func TestGivenIsNotKept(t *testing.T) {
	p, _ := plain.Problem(first())
	d, err := New(p)
	must(t, err)
	is(t, d, plain.Spec(p))
	spoil(p)
	is(t, d, first())
	terms := make([]linear.Term, 1, 4)
	terms[0] = linear.Term{Col: 1, By: ratio.Int(1)}
	row := linear.Row{Name: "two", High: bound("1/2"), Terms: terms}
	must(t, d.Row(row))
	row.Terms[0] = linear.Term{Col: 0, By: ratio.Int(5)}
	want := first()
	want.Rows = append(want.Rows, api.RowSpec{Name: "two", High: "1/2", Cols: []int{1}, By: []string{"1"}})
	is(t, d, want)
	best(t, d, api.Best, "29/2")
	if terms[0].By.Text() != "5" || row.Name != "two" {
		t.Error("what was given is changed")
	}
}

// TestNoDesk: what stands beside an error of New, and a desk that is none, have nothing to be changed.
func TestNoDesk(t *testing.T) {
	none, _ := New(nil)
	for _, d := range []*Desk{none, {}} {
		for i, err := range []error{d.Cost("x", ratio.R{}), d.Bounds("x", bound(""), bound("")), d.Col(linear.Col{Name: "x"}), d.Row(linear.Row{Name: "r"}), d.Drop("r")} {
			if err != api.ErrShape {
				t.Errorf("%d: %v", i, err)
			}
		}
		d.Turn()
		if d.Undo() || d.Problem() != nil {
			t.Error("there is a problem")
		}
		if c, where := d.Solve(); c.Kind != 0 || where != nil {
			t.Errorf("%+v, %v", c, where)
		}
	}
}
