package finite

import (
	"reflect"
	"slices"
	"testing"

	"optima/api"
)

// scatter makes puzzles out of a fixed rule.
type scatter uint64

func (s *scatter) below(n int) int {
	*s ^= *s << 13
	*s ^= *s >> 7
	*s ^= *s << 17
	return int(uint64(*s) % uint64(n))
}

func (s *scatter) numbers(many, low, wide int) []int {
	out := make([]int, many)
	for i := range out {
		out[i] = low + s.below(wide)
	}
	return out
}

// list is values near 0, with gaps; seldom none.
func (s *scatter) list(most int) []int {
	if s.below(300) == 0 {
		return nil
	}
	var out []int
	value := -s.below(3)
	for range 1 + s.below(most) {
		out = append(out, value)
		value += 1 + s.below(5)/3
	}
	return out
}

func (s *scatter) lists(many, most int) [][]int {
	out := make([][]int, many)
	for v := range out {
		out[v] = s.list(most)
	}
	return out
}

// con is a constraint of any kind; a variable may stand in it more than once, and seldom none does.
func (s *scatter) con(vars int) api.Con {
	kind := 1 + s.below(5)
	many := 1 + s.below(4)
	switch {
	case kind == api.ConElement:
		many += 2 - s.below(2)
	case s.below(40) == 0:
		many = 0
	}
	con := api.Con{Kind: kind, Vars: s.numbers(many, 0, vars)}
	switch kind {
	case api.ConElement:
		con.Vars = append(con.Vars, s.numbers(2, 0, vars)...)
	case api.ConSum:
		con.Nums, con.Limit = s.factors(many), s.below(13)-4
	case api.ConTable:
		for range s.below(12) {
			con.Rows = append(con.Rows, s.numbers(many, -1, 5))
		}
	case api.ConShare:
		con.Nums, con.Uses, con.Limit = s.numbers(many, 0, 4), s.numbers(many, 0, 3), s.below(4)
	}
	return con
}

// factors is numbers that are not 0.
func (s *scatter) factors(many int) []int {
	out := s.numbers(many, 1, 3)
	for i := range out {
		if s.below(2) == 0 {
			out[i] = -out[i]
		}
	}
	return out
}

func (s *scatter) puzzle(vars, most, cons int) api.Puzzle {
	p := api.Puzzle{Values: s.lists(vars, most)}
	for range cons {
		p.Cons = append(p.Cons, s.con(vars))
	}
	return p
}

// planted is a puzzle that some values keep: constraints that they do not keep are left out.
func (s *scatter) planted(vars, most, cons int) api.Puzzle {
	p := api.Puzzle{}
	var x []int
	for range vars {
		list := s.list(most)
		if len(list) == 0 {
			list = []int{0}
		}
		p.Values, x = append(p.Values, list), append(x, list[s.below(len(list))])
	}
	for len(p.Cons) < cons {
		con := s.con(vars)
		values := over{con.Vars}.pick(x)
		switch con.Kind {
		case api.ConSum:
			con.Limit = 0
			for i, n := range con.Nums {
				con.Limit += n * values[i]
			}
		case api.ConTable:
			con.Rows = append(con.Rows, values)
		}
		if keepsCon(con, values) {
			p.Cons = append(p.Cons, con)
		}
	}
	return p
}

func TestNarrowOfMany(t *testing.T) {
	s := scatter(88172645463325252)
	some, less := 0, 0
	for range 20000 {
		p := s.puzzle(1+s.below(5), 6, s.below(4))
		want, yes := narrowPlainly(p)
		got, ok, err := Narrow(p)
		if err != nil || ok != yes || !reflect.DeepEqual(got, want) {
			t.Fatalf("%+v: %v, %v, %v; it must be %v, %v", p, got, ok, err, want, yes)
		}
		if ok {
			some++
		}
		if ok && !reflect.DeepEqual(got, p.Values) {
			less++
		}
	}
	if some < 5000 || some > 18000 || less < 2500 {
		t.Errorf("%d have something left, %d less", some, less)
	}
}

// TestNarrowOfWide: lists with more places than a word has bits.
func TestNarrowOfWide(t *testing.T) {
	s := scatter(2463534242)
	for range 300 {
		p := s.puzzle(1+s.below(4), api.MaxVals, 1+s.below(3))
		for i := range p.Cons {
			if p.Cons[i].Kind == api.ConSum {
				p.Cons[i].Limit *= 40
			}
			for _, row := range p.Cons[i].Rows {
				for j := range row {
					row[j] *= 60
				}
			}
		}
		if slices.ContainsFunc(p.Cons, func(con api.Con) bool { return con.Kind == api.ConDiffer }) {
			continue // the words would take too long
		}
		want, yes := narrowPlainly(p)
		if got, ok, err := Narrow(p); err != nil || ok != yes || !reflect.DeepEqual(got, want) {
			t.Fatalf("%+v: %v, %v, %v; it must be %v, %v", p, got, ok, err, want, yes)
		}
	}
}

func firstAsPlainly(t *testing.T, p api.Puzzle, k int) bool {
	t.Helper()
	want := firstPlainly(p)
	got, ok, err := First(p)
	if err != nil || ok != (want != nil) || !slices.Equal(got, want) {
		t.Fatalf("%+v: %v, %v, %v; it must be %v", p, got, ok, err, want)
	}
	want = leastPlainly(p, k)
	got, ok, err = Least(p, k)
	if err != nil || ok != (want != nil) || !slices.Equal(got, want) {
		t.Fatalf("%+v, %d: %v, %v, %v; it must be %v", p, k, got, ok, err, want)
	}
	return ok
}

func TestFirstOfMany(t *testing.T) {
	s := scatter(362436069)
	some := 0
	for range 20000 {
		p := s.puzzle(1+s.below(6), 6, s.below(7))
		if firstAsPlainly(t, p, s.below(len(p.Values))) {
			some++
		}
	}
	if some < 3000 || some > 17000 {
		t.Errorf("%d can be kept", some)
	}
}

// TestFirstOfPlanted: greater puzzles, where there is something to learn.
func TestFirstOfPlanted(t *testing.T) {
	s := scatter(521288629)
	for range 3000 {
		vars := 2 + s.below(9)
		p := s.planted(vars, 6, vars/2+s.below(vars))
		if !firstAsPlainly(t, p, s.below(vars)) {
			t.Fatalf("%+v: nothing", p)
		}
	}
}

func TestKeepsOfMany(t *testing.T) {
	s := scatter(123456789)
	right, wrong := 0, 0
	for range 20000 {
		vars := 1 + s.below(5)
		p := s.planted(vars, 6, s.below(3))
		if s.below(3) == 0 {
			p.Cons = append(p.Cons, s.con(vars))
		}
		x := make([]int, vars)
		for v, list := range p.Values {
			x[v] = list[s.below(len(list))]
		}
		got, err := Keeps(p, x)
		if err != nil || got != keepsPlainly(p, x) {
			t.Fatalf("%+v, %v: %v, %v", p, x, got, err)
		}
		if got {
			right++
		} else {
			wrong++
		}
	}
	if right < 3000 || wrong < 3000 {
		t.Errorf("%d keep, %d do not", right, wrong)
	}
}

// TestSameAgain: what is answered hangs on what is given alone.
func TestSameAgain(t *testing.T) {
	s := scatter(77777)
	for range 300 {
		vars := 2 + s.below(20)
		p := s.planted(vars, 9, vars)
		lists, _, _ := Narrow(p)
		x, _, _ := First(p)
		y, _, _ := Least(p, vars/2)
		again, _, _ := Narrow(p)
		other, _, _ := First(p)
		another, _, _ := Least(p, vars/2)
		if !reflect.DeepEqual(lists, again) || !slices.Equal(x, other) || !slices.Equal(y, another) {
			t.Fatalf("%+v: another answer", p)
		}
	}
}
