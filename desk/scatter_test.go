package desk

import (
	"fmt"
	"slices"
	"strconv"
	"testing"

	"optima/api"
	"optima/linear"
	"optima/plain"
	"optima/simplex"
	"optima/witness"
)

// scatter makes changes out of a fixed rule.
type scatter uint64

func (s *scatter) below(n int) int {
	*s ^= *s << 13
	*s ^= *s >> 7
	*s ^= *s << 17
	return int(uint64(*s) % uint64(n))
}

// number is a small number, mostly whole.
func (s *scatter) number() string {
	text := strconv.Itoa(s.below(9) - 4)
	if s.below(4) == 0 {
		r, _ := plain.Number(text + "/" + strconv.Itoa(1+s.below(3)))
		text = r.Text()
	}
	return text
}

// bounds seldom cross.
func (s *scatter) bounds() (low, high string) {
	at := s.below(7) - 4
	if s.below(4) > 0 {
		low = strconv.Itoa(at)
	}
	if s.below(3) > 0 {
		high = strconv.Itoa(at + s.below(5))
	}
	if low != "" && high != "" && s.below(30) == 0 {
		low, high = high, low
	}
	return low, high
}

// name is one of a few, so that some are there already, and some are not; seldom it is empty.
func (s *scatter) name(of string) string {
	if s.below(25) == 0 {
		return ""
	}
	return of + strconv.Itoa(s.below(7))
}

func (s *scatter) col() api.ColSpec {
	low, high := s.bounds()
	return api.ColSpec{Name: s.name("c"), Whole: s.below(4) == 0, Low: low, High: high, Cost: s.number()}
}

// row is mostly one of as many columns as there are; seldom its terms are wrong.
func (s *scatter) row(cols int) api.RowSpec {
	low, high := s.bounds()
	r := api.RowSpec{Name: s.name("r"), Low: low, High: high}
	for col := range cols {
		if by := s.number(); by != "0" && s.below(3) > 0 {
			r.Cols, r.By = append(r.Cols, col), append(r.By, by)
		}
	}
	if len(r.Cols) == 0 {
		return r
	}
	switch s.below(20) {
	case 0:
		r.By[s.below(len(r.By))] = "0"
	case 1:
		r.Cols[s.below(len(r.Cols))] = s.below(cols+3) - 1
	}
	return r
}

// pair is a desk, and the words of the chapter.
type pair struct {
	d *Desk
	m *model
}

// start is a pair of a small problem.
func (s *scatter) start(t *testing.T) pair {
	t.Helper()
	spec := api.Spec{Max: s.below(2) == 0, Shift: s.number()}
	for i := range s.below(4) {
		c := s.col()
		c.Name = "c" + strconv.Itoa(i)
		spec.Cols = append(spec.Cols, c)
	}
	p, ok := plain.Problem(spec)
	if !ok {
		t.Fatalf("%+v", spec)
	}
	d, err := New(p)
	if err != nil {
		t.Fatalf("%+v: %v", spec, err)
	}
	return pair{d, &model{all: []api.Spec{spec}}}
}

// step changes both alike, and tells what it was, and what each of both told.
func (s *scatter) step(p pair) (what string, told, want error) {
	switch s.below(8) {
	case 0:
		name, cost := s.name("c"), s.number()
		return "Cost " + name + " " + cost, p.d.Cost(name, bound(cost).At), p.m.cost(name, cost)
	case 1, 2:
		name := s.name("c")
		low, high := s.bounds()
		return "Bounds " + name + " " + low + " " + high, p.d.Bounds(name, bound(low), bound(high)), p.m.bounds(name, low, high)
	case 3:
		p.d.Turn()
		return "Turn", nil, p.m.turn()
	case 4:
		c := s.col()
		return fmt.Sprintf("Col %+v", c), p.d.Col(colOf(c)), p.m.col(c)
	case 5, 6:
		r := s.row(len(p.m.now().Cols))
		row := rowOf(r)
		told := p.d.Row(row)
		clear(row.Terms)
		return fmt.Sprintf("Row %+v", r), told, p.m.row(r)
	}
	name := s.name("r")
	return "Drop " + name, p.d.Drop(name), p.m.drop(name)
}

func bound(s string) linear.Bound {
	b, ok := plain.Bound(s)
	if !ok {
		panic(s)
	}
	return b
}

func colOf(c api.ColSpec) linear.Col {
	return linear.Col{Name: c.Name, Whole: c.Whole, Low: bound(c.Low), High: bound(c.High), Cost: bound(c.Cost).At}
}

func rowOf(r api.RowSpec) linear.Row {
	row := linear.Row{Name: r.Name, Low: bound(r.Low), High: bound(r.High)}
	for k, col := range r.Cols {
		row.Terms = append(row.Terms, linear.Term{Col: col, By: bound(r.By[k]).At})
	}
	return row
}

// shown sees to it that what a desk answers is what chapter 8 asks of Solve, and tells the claim's kind.
func shown(t *testing.T, d *Desk) int {
	t.Helper()
	c, where := d.Solve()
	p := d.Problem()
	if ok, err := witness.Check(p, c); err != nil || !ok {
		t.Fatalf("%s: %+v does not show itself (%v)", said(plain.Spec(p)), plain.ClaimSpec(c), err)
	}
	f, err := simplex.FrameOf(p, where)
	if err != nil {
		t.Fatalf("%s: %v: %v", said(plain.Spec(p)), where, err)
	}
	if c.Kind == api.Best {
		cols := len(p.Cols)
		if !slices.Equal(plain.Texts(f.X[:cols]), plain.Texts(c.X)) || !slices.Equal(plain.Texts(f.Cost[cols:]), plain.Texts(c.Y)) {
			t.Fatalf("%s: %v: %+v is not that basis's", said(plain.Spec(p)), where, plain.ClaimSpec(c))
		}
	}
	if fresh, _, _ := simplex.Solve(p); fresh.Kind != c.Kind || fresh.Value.Cmp(c.Value) != 0 {
		t.Fatalf("%s: %+v and %+v", said(plain.Spec(p)), plain.ClaimSpec(c), plain.ClaimSpec(fresh))
	}
	return c.Kind
}

// counts is how often things came to pass.
type counts map[string]int

func (c counts) atLeast(t *testing.T, least int, names ...string) {
	t.Helper()
	for _, name := range names {
		if c[name] < least {
			t.Errorf("%s: only %d times", name, c[name])
		}
	}
}

// TestWalks: along changes of every kind, also ones that are refused, and undone, the problem is what the chapter says, and each solution shows itself.
func TestWalks(t *testing.T) {
	s := scatter(2463534242)
	count := counts{}
	for range 300 {
		p := s.start(t)
		for range 40 {
			if s.below(5) == 0 {
				told, want := p.d.Undo(), p.m.undo()
				if told != want {
					t.Fatalf("Undo of %d changes: %v", len(p.m.all)-1, told)
				}
				count["undo "+strconv.FormatBool(told)]++
			} else {
				what, told, want := s.step(p)
				if told != want {
					t.Fatalf("%s of %s: %v, want %v", what, said(p.m.now()), told, want)
				}
				count[fmt.Sprint(what[:3], " ", told)]++
			}
			if now := plain.Spec(p.d.Problem()); said(now) != said(p.m.now()) {
				t.Fatalf("%s, want %s", said(now), said(p.m.now()))
			}
			if s.below(2) == 0 { // so that more than one change may come between two looks
				count["kind "+strconv.Itoa(shown(t, p.d))]++
			}
		}
		for p.m.undo() {
			if !p.d.Undo() || said(plain.Spec(p.d.Problem())) != said(p.m.now()) {
				t.Fatalf("%s, want %s", said(plain.Spec(p.d.Problem())), said(p.m.now()))
			}
		}
		if p.d.Undo() {
			t.Fatal("Undo, and nothing is left")
		}
		shown(t, p.d)
	}
	count.atLeast(t, 100, "undo true", "kind 1", "kind 2", "kind 3", "Tur <nil>")
	count.atLeast(t, 20, "undo false", "Row optima: shape")
	for _, what := range []string{"Cos", "Bou", "Col", "Row", "Dro"} {
		count.atLeast(t, 100, what+" <nil>", what+" optima: name")
	}
}

// TestGreatProblem: where many columns are Basic, and looks set out from many steps ahead.
func TestGreatProblem(t *testing.T) {
	const size = 40
	s := scatter(521288629)
	row := func(name string, cols int) linear.Row {
		r := linear.Row{Name: name, High: bound(strconv.Itoa(5 + s.below(20)))}
		for col := range cols {
			if by := s.number(); by != "0" && s.below(6) == 0 {
				r.Terms = append(r.Terms, linear.Term{Col: col, By: bound(by).At})
			}
		}
		return r
	}
	d := deskOf(t, api.Spec{Max: true, Shift: "0"})
	for i := range size {
		must(t, d.Col(linear.Col{Name: "c" + strconv.Itoa(i), Low: bound("0"), High: bound(strconv.Itoa(9 + s.below(9))), Cost: bound(s.number()).At}))
		must(t, d.Row(row("r"+strconv.Itoa(i), i+1)))
	}
	for i := range 10 {
		for _, change := range []func() error{
			func() error { return d.Cost("c"+strconv.Itoa(s.below(size)), bound(s.number()).At) },
			func() error {
				return d.Bounds("c"+strconv.Itoa(s.below(size)), bound("0"), bound(strconv.Itoa(s.below(9))))
			},
			func() error { return d.Row(row("more"+strconv.Itoa(i), size)) },
			func() error { return d.Drop("r" + strconv.Itoa(3*i)) },
		} {
			must(t, change())
			if kind := shown(t, d); kind != api.Best {
				t.Fatalf("kind %d", kind)
			}
		}
	}
	for d.Undo() {
		shown(t, d)
	}
	is(t, d, api.Spec{Max: true, Shift: "0"})
}

// TestSameAgain: two desks on which the same is done answer the same (P2).
func TestSameAgain(t *testing.T) {
	for seed := range 40 {
		one, other := scatter(seed+1), scatter(seed+1)
		a, b := one.start(t), other.start(t)
		for range 30 {
			one.step(a)
			other.step(b)
			c, where := a.d.Solve()
			again, stand := b.d.Solve()
			if fmt.Sprint(plain.ClaimSpec(c), where) != fmt.Sprint(plain.ClaimSpec(again), stand) {
				t.Fatalf("%s: %+v, %v and %+v, %v", said(a.m.now()), plain.ClaimSpec(c), where, plain.ClaimSpec(again), stand)
			}
		}
	}
}

// TestNothingShared: what is given is written into behind each call, and so is what came of it; the desk goes on as if nothing were, and elder answers stay as they were (P4).
func TestNothingShared(t *testing.T) {
	s := scatter(88172645463325252)
	for range 150 {
		p := s.start(t)
		var elder []*linear.Problem
		var texts []string
		for range 25 {
			s.step(p)
			if s.below(4) == 0 && p.d.Undo() != p.m.undo() {
				t.Fatal("Undo")
			}
			kept := p.d.Problem()
			elder, texts = append(elder, kept), append(texts, said(plain.Spec(kept)))
			spoil(p.d.Problem())
			c, where := p.d.Solve()
			clear(c.X)
			clear(c.Y)
			clear(c.Ray)
			for i := range where {
				where[i] = 7
			}
			if now := plain.Spec(p.d.Problem()); said(now) != said(p.m.now()) {
				t.Fatalf("%s, want %s", said(now), said(p.m.now()))
			}
			shown(t, p.d)
		}
		for i, kept := range elder {
			if said(plain.Spec(kept)) != texts[i] {
				t.Fatalf("%s has become %s", texts[i], said(plain.Spec(kept)))
			}
		}
	}
}

// spoil writes into all that a problem has, also behind the ends of its lists.
func spoil(p *linear.Problem) {
	for _, row := range p.Rows {
		clear(row.Terms[:cap(row.Terms)])
	}
	clear(p.Rows[:cap(p.Rows)])
	clear(p.Cols[:cap(p.Cols)])
	p.Max, p.Shift = !p.Max, bound("77").At
}
