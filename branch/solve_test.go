package branch

import (
	"errors"
	"reflect"
	"testing"

	"optima/api"
	"optima/linear"
	"optima/ratio"
)

// solved is what Solve tells, held against what shows it: all of the trail, by the words of the document too, but no part of it.
func solved(t *testing.T, p *linear.Problem) (Answer, []Line) {
	t.Helper()
	a, l, err := Solve(p)
	if err != nil {
		t.Fatalf("%+v: %v", p, err)
	}
	if yes, err := Check(p, a, l); err != nil || !yes {
		t.Fatalf("%+v: kind %d, %s at %s is not shown by %s", p, a.Kind, a.Value.Text(), texts(a.X), told(l))
	}
	if len(l) == 0 {
		t.Fatalf("%+v: no trail", p)
	}
	if yes, err := Check(p, a, l[:len(l)-1]); err != nil || yes {
		t.Fatalf("%+v: a part of %s shows it too", p, told(l))
	}
	return a, l
}

const sack = "set I = {a, b, c, d}; param worth{i in I} : [a] 8 [b] 11 [c] 6 [d] 4; param weight{i in I} : [a] 5 [b] 7 [c] 4 [d] 3; var x{i in I} binary; "

func TestSolve(t *testing.T) {
	for _, c := range []struct {
		text  string
		kind  int
		value string
	}{
		{doc, api.Best, "2"},
		{odd, api.None, "0"},
		{least, api.Best, "3"},
		{mixed, api.Best, "3"},
		{loose, api.Best, "1"},
		{named, api.Best, "2"},
		{sack + "maximize z: sum{i in I} worth[i] * x[i]; subject s: sum{i in I} weight[i] * x[i] <= 14;", api.Best, "21"},
		{sack + "minimize z: sum{i in I} worth[i] * x[i]; subject s: sum{i in I} weight[i] * x[i] >= 13/2;", api.Best, "10"},
		{sack + "var part >= 0 <= 1; minimize z: sum{i in I} worth[i] * x[i] - 1/2 * part; subject s: sum{i in I} weight[i] * x[i] >= 13/2;", api.Best, "19/2"},
		{sack + "minimize z: sum{i in I} worth[i] * x[i]; subject s: sum{i in I} weight[i] * x[i] >= 20;", api.None, "0"},

		// nothing to look for
		{"", api.Best, "0"},
		{"maximize z: -7/2;", api.Best, "-7/2"},
		{"subject r: 0 >= 1;", api.None, "0"},
		{"subject r: 0 <= 1;", api.Best, "0"},
		{"var x; subject r: x <= 1;", api.Best, "0"},
		{"var x; minimize z: x; subject r: x >= 1/2;", api.Best, "1/2"},

		// bounds that cross, that are the same, that no whole number is between
		{"var x integer >= 2 <= 1;", api.None, "0"},
		{"var x >= 2 <= 1;", api.None, "0"},
		{"var x integer >= 0 <= 1; subject r: 2 <= x <= 1;", api.None, "0"},
		{"var x integer >= 4 <= 4; minimize z: x;", api.Best, "4"},
		{"var x integer >= 7/2 <= 7/2; minimize z: x;", api.None, "0"},
		{"var x integer >= 1/3 <= 2/3; minimize z: x;", api.None, "0"},
		{"var x integer >= 1/3 <= 5/3; minimize z: x;", api.Best, "1"},
		{"var x integer >= -5/2 <= 5/2; minimize z: x;", api.Best, "-2"},
		{"var x integer >= -5/2 <= 5/2; maximize z: x;", api.Best, "2"},
		{"var x integer >= -5/2 <= 5/2; maximize z: 1/3 - 2/7 * x;", api.Best, "19/21"},

		// wide bounds
		{"var x integer >= 0 <= 1000000000000; maximize z: x; subject r: 3 * x <= 1000000000000;", api.Best, "333333333333"},
		{"var x integer >= 0 <= 1000000000000; var y integer >= 0 <= 1000000000000; subject r: 2 * x - 2 * y = 1;", api.None, "0"},
		{"var x integer >= 0 <= 1000000; var y integer >= 0 <= 1000000; minimize z: x + y; subject r: 1/3 * x - 5/9 * y = 1/9;", api.Best, "3"},
		{"var x integer >= 0 <= 1000000; var y integer >= 0 <= 1000000; subject r: 6 * x - 10 * y = 1;", api.None, "0"},
		{"var x integer >= 0 <= 1000000000; var y integer >= 0 <= 1000000000; minimize z: x + y; subject r: 12345677 * x - 23456789 * y = 1;", api.Best, "10608137"},

		// columns that are not whole, with no end, where it does no harm
		{"var x integer >= 0 <= 5; var w >= 0; minimize z: w - x; subject r: w >= x - 5/2;", api.Best, "-5/2"},
		{"var x integer >= 0 <= 5; var w; minimize z: 2 * w - x; subject r: w >= x - 5/2; subject s: w >= -1/3;", api.Best, "-8/3"},
		{"var x integer >= 0 <= 5; var w; minimize z: x; subject r: w + x = 7/2;", api.Best, "0"},
	} {
		a, l := solved(t, problem(t, c.text))
		if a.Kind != c.kind || a.Value.Text() != c.value {
			t.Errorf("%s: %d, %s by %s", c.text, a.Kind, a.Value.Text(), told(l))
		}
		if !plainCheck(problem(t, c.text), a, l) {
			t.Errorf("%s: by the document's words %s shows nothing", c.text, told(l))
		}
	}
}

func TestOpen(t *testing.T) {
	for _, text := range []string{
		"var x integer;",
		"var x integer >= 0;",
		"var x integer <= 0;",
		"var y >= 0 <= 1; var x integer >= 0; maximize z: y;",
		"var x integer >= 0; minimize z: x;",                          // though there is a best one
		"var x integer >= 0; var w >= 2 <= 1; minimize z: x;",         // though nothing holds
		"var x integer >= 0; maximize z: x; subject r: x <= 4;",       // though a row ends it
		"var x integer; subject r: x = 4;",                            // likewise
		"var w; maximize z: w;",                                       // as good as one likes
		"var w; minimize z: w;",                                       //
		"var w; var v; minimize z: w - v; subject r: w - 2 * v = 0;",  //
		"var x integer >= 1/3 <= 2/3; var w >= 0; maximize z: w - x;", // even if no whole point holds
		"var x integer >= 0 <= 3; var y integer >= 0 <= 3; var w >= 0; maximize z: x + w; subject r: 2 * x + 2 * y = 5;",
	} {
		a, l, err := Solve(problem(t, text))
		if !errors.Is(err, api.ErrOpen) || a.Kind != 0 || a.X != nil || a.Value.Sign() != 0 || l != nil {
			t.Errorf("%s: %+v, %s, %v", text, a, told(l), err)
		}
	}
	for _, text := range []string{
		"var w >= 0; maximize z: w; subject r: 0 >= 1;", // nothing holds: so nothing is good
		"var w >= 0; var x integer >= 2 <= 1; maximize z: w;",
		"var w >= 0; var x >= 0 <= 1; maximize z: w; subject r: x >= 2;",
	} {
		if a, _ := solved(t, problem(t, text)); a.Kind != api.None {
			t.Errorf("%s: %d", text, a.Kind)
		}
	}
}

// TestMemory: what is handed over stays as it is; no two lists of what is answered share memory, and another answer does not change with it.
func TestMemory(t *testing.T) {
	s := scatter(88172645463325252)
	for range 300 {
		p := s.problem(1+s.below(5), s.below(5))
		kept := linear.Twin(p)
		a, l, err := Solve(p)
		if err != nil {
			continue
		}
		value, text, x := a.Value.Text(), told(l), texts(a.X)
		if yes, err := Check(p, a, l); err != nil || !yes || told(l) != text || texts(a.X) != x {
			t.Fatalf("%v, %v", yes, err)
		}
		if !reflect.DeepEqual(p, kept) {
			t.Fatalf("%+v has become %+v", kept, p)
		}
		again, more, _ := Solve(p)
		lists := [][]ratio.R{a.X}
		for _, line := range l {
			lists = append(lists, line.Y)
		}
		for i, list := range lists {
			for j := range list {
				list[j] = ratio.Int(int64(1000 + i))
			}
			_ = append(list, ratio.Int(99)) // into room behind it, if it has any
		}
		for i, list := range lists {
			for _, r := range list {
				if r.Cmp(ratio.Int(int64(1000+i))) != 0 {
					t.Fatalf("lists share memory: %s", told(l))
				}
			}
		}
		if again.Value.Text() != value || texts(again.X) != x || told(more) != text || !reflect.DeepEqual(p, kept) {
			t.Fatalf("%+v: %s by %s, then %s by %s", p, value, text, again.Value.Text(), told(more))
		}
	}
}
