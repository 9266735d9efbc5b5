package cuts

import (
	"math/big"
	"reflect"
	"slices"
	"strconv"
	"testing"

	"optima/api"
	"optima/linear"
	"optima/ratio"
	"optima/simplex"
)

// scatter makes problems and what goes with them out of a fixed rule.
type scatter uint64

func (s *scatter) below(n int) int {
	*s ^= *s << 13
	*s ^= *s >> 7
	*s ^= *s << 17
	return int(uint64(*s) % uint64(n))
}

// fraction is a small number, often whole.
func (s *scatter) fraction() ratio.R {
	r, _ := ratio.Int(int64(s.below(11) - 5)).Quo(ratio.Int(int64(max(1, s.below(6)-1))))
	return r
}

// sides are bounds that seldom cross.
func (s *scatter) sides(open int) (low, high linear.Bound) {
	low = linear.Bound{Has: s.below(open) > 0, At: s.fraction()}
	high = linear.Bound{Has: s.below(open) > 0, At: low.At.Add(ratio.Int(int64(s.below(4))))}
	if s.below(40) == 0 {
		low, high = high, low
	}
	return low, high
}

// problem has whole columns between bounds, so that all that they may be can be gone through, and others.
func (s *scatter) problem(cols, rows int) *linear.Problem {
	p := &linear.Problem{Max: s.below(2) == 0, Shift: s.fraction()}
	for j := range cols {
		col := linear.Col{Name: "c" + strconv.Itoa(j), Whole: s.below(3) > 0, Cost: s.fraction()}
		col.Low, col.High = s.sides(4)
		switch {
		case col.Whole && s.below(2) == 0:
			col.Low, col.High = linear.Bound{Has: true}, linear.Bound{Has: true, At: ratio.Int(1)}
		case col.Whole:
			col.Low, col.High = s.sides(1 << 30)
		}
		p.Cols = append(p.Cols, col)
	}
	thin := 1 + s.below(3)
	for i := range rows {
		row := linear.Row{Name: "r" + strconv.Itoa(i)}
		row.Low, row.High = s.sides(4)
		for j := range cols {
			if by := s.fraction(); by.Sign() != 0 && s.below(thin) == 0 {
				row.Terms = append(row.Terms, linear.Term{Col: j, By: by})
			}
		}
		p.Rows = append(p.Rows, row)
	}
	return p
}

// loosened: a bound less, of whole columns too.
func (s *scatter) loosened(p *linear.Problem) {
	for j := range p.Cols {
		if s.below(8) == 0 {
			p.Cols[j].Low = linear.Bound{}
		}
		if s.below(8) == 0 {
			p.Cols[j].High = linear.Bound{}
		}
	}
}

func (s *scatter) by(rows int) []ratio.R {
	out := make([]ratio.R, rows)
	for i := range out {
		if s.below(3) > 0 {
			out[i] = s.fraction()
		}
	}
	return out
}

// where is a list that often is a basis: as many are Basic as there are rows, the others where they may be.
func (s *scatter) where(p *linear.Problem) []int {
	out := make([]int, len(p.Cols)+len(p.Rows))
	for i := range out {
		low, high := edges(p, i)
		switch {
		case low.Has && (!high.Has || s.below(2) == 0):
			out[i] = api.Low
		case high.Has:
			out[i] = api.High
		}
	}
	for range p.Rows {
		i := s.below(len(out))
		for out[i] == api.Basic {
			i = (i + 1) % len(out)
		}
		out[i] = api.Basic
	}
	return out
}

// set is some columns: mostly of those that a row could make a cover of.
func (s *scatter) set(p *linear.Problem, i int) []int {
	var out []int
	free := s.below(4) == 0
	for col, c := range p.Cols {
		fit := c.Whole && boundText(c.Low) == "0" && boundText(c.High) == "1" && slices.ContainsFunc(p.Rows[i].Terms, func(t linear.Term) bool { return t.Col == col && t.By.Sign() > 0 })
		if (free || fit) && s.below(5) > 1 {
			out = append(out, col)
		}
	}
	return out
}

func edges(p *linear.Problem, col int) (low, high linear.Bound) {
	if cols := len(p.Cols); col >= cols {
		return p.Rows[col-cols].Low, p.Rows[col-cols].High
	}
	return p.Cols[col].Low, p.Cols[col].High
}

func bigOf(r ratio.R) *big.Rat {
	out, _ := new(big.Rat).SetString(r.Text())
	return out
}

func bigFloor(r *big.Rat) *big.Rat {
	return new(big.Rat).SetInt(new(big.Int).Div(r.Num(), r.Denom())) // the denominator is above 0: so it goes down
}

func times(a, b *big.Rat) *big.Rat { return new(big.Rat).Mul(a, b) }

func over(a, b *big.Rat) *big.Rat { return new(big.Rat).Quo(a, b) }

func less(a, b *big.Rat) *big.Rat { return new(big.Rat).Sub(a, b) }

func one() *big.Rat { return big.NewRat(1, 1) }

// plainRow is told of numbers of all columns and one side.
func plainRow(numbers []*big.Rat, low, high *big.Rat) string {
	out := ""
	if low != nil {
		out += low.RatString()
	}
	out += ".."
	if high != nil {
		out += high.RatString()
	}
	for col, n := range numbers {
		if n.Sign() != 0 {
			out += " " + n.RatString() + "*" + strconv.Itoa(col)
		}
	}
	return out
}

func noughts(n int) []*big.Rat {
	out := make([]*big.Rat, n)
	for i := range out {
		out[i] = new(big.Rat)
	}
	return out
}

// plainCombine is P110 word by word.
func plainCombine(p *linear.Problem, by []ratio.R) string {
	if len(by) != len(p.Rows) {
		return "shape"
	}
	numbers, side := noughts(len(p.Cols)), new(big.Rat)
	for i, row := range p.Rows {
		counts := linear.Bound{Has: true}
		if by[i].Sign() > 0 {
			counts = row.High
		}
		if by[i].Sign() < 0 {
			counts = row.Low
		}
		if !counts.Has {
			return "open"
		}
		side.Add(side, times(bigOf(by[i]), bigOf(counts.At)))
		for _, t := range row.Terms {
			numbers[t.Col].Add(numbers[t.Col], times(bigOf(by[i]), bigOf(t.By)))
		}
	}
	for i, col := range p.Cols {
		left := numbers[i]
		if col.Whole {
			left = less(numbers[i], bigFloor(numbers[i]))
		}
		if left.Sign() == 0 {
			continue
		}
		counts := col.Low
		if left.Sign() < 0 {
			counts = col.High
		}
		if !counts.Has {
			return "open"
		}
		side = less(side, times(left, bigOf(counts.At)))
		numbers[i] = less(numbers[i], left)
	}
	return plainRow(numbers, nil, bigFloor(side))
}

// plainMixed is P111 word by word.
func plainMixed(p *linear.Problem, where []int, col int) string {
	f, err := simplex.FrameOf(p, where)
	if err != nil {
		return "basis"
	}
	if col < 0 || col >= len(p.Cols) || !p.Cols[col].Whole {
		return "shape"
	}
	at := slices.Index(f.Basic, col)
	if at < 0 || f.X[col].IsWhole() {
		return "open"
	}
	f0 := less(bigOf(f.X[col]), bigFloor(bigOf(f.X[col])))
	numbers, low := noughts(len(p.Cols)), one()
	for k, by := range f.By[at] {
		if k == col || by.Sign() == 0 {
			continue
		}
		if where[k] == api.Loose {
			return "open"
		}
		g, bound := plainNumber(p, where, k, bigOf(by), f0), bigOf(f.X[k])
		if where[k] == api.High {
			g.Neg(g)
		}
		low.Add(low, times(g, bound))
		if k < len(p.Cols) {
			numbers[k].Add(numbers[k], g)
			continue
		}
		for _, t := range p.Rows[k-len(p.Cols)].Terms {
			numbers[t.Col].Add(numbers[t.Col], times(g, bigOf(t.By)))
		}
	}
	return plainRow(numbers, low, nil)
}

// plainNumber is the number g of a step.
func plainNumber(p *linear.Problem, where []int, k int, b, f0 *big.Rat) *big.Rat {
	low, high := edges(p, k)
	a, bound := new(big.Rat).Neg(b), low
	if where[k] == api.High {
		a, bound = b, high
	}
	if k < len(p.Cols) && p.Cols[k].Whole && bound.At.IsWhole() {
		f := less(a, bigFloor(a))
		if f.Cmp(f0) <= 0 {
			return over(f, f0)
		}
		return over(less(one(), f), less(one(), f0))
	}
	if a.Sign() > 0 {
		return over(a, f0)
	}
	return over(new(big.Rat).Neg(a), less(one(), f0))
}

// plainCover is P112 word by word.
func plainCover(p *linear.Problem, i int, set []int) string {
	if i < 0 || i >= len(p.Rows) || !p.Rows[i].High.Has || len(set) == 0 {
		return "shape"
	}
	for n, col := range set {
		if col < 0 || col >= len(p.Cols) || n > 0 && col <= set[n-1] {
			return "shape"
		}
	}
	total, inRow := new(big.Rat), 0
	for _, t := range p.Rows[i].Terms {
		c := p.Cols[t.Col]
		if slices.Contains(set, t.Col) {
			if !c.Whole || boundText(c.Low) != "0" || boundText(c.High) != "1" || t.By.Sign() < 0 {
				return "shape"
			}
			inRow++
			total.Add(total, bigOf(t.By))
			continue
		}
		counts := c.Low
		if t.By.Sign() < 0 {
			counts = c.High
		}
		if !counts.Has {
			return "open"
		}
		total.Add(total, times(bigOf(t.By), bigOf(counts.At)))
	}
	if inRow != len(set) {
		return "shape"
	}
	if total.Cmp(bigOf(p.Rows[i].High.At)) <= 0 {
		return "open"
	}
	numbers := noughts(len(p.Cols))
	for _, col := range set {
		numbers[col].SetInt64(1)
	}
	return plainRow(numbers, nil, big.NewRat(int64(len(set)-1), 1))
}

// counted is how often answers were rows, and how often errors.
type counted map[string]int

func (c counted) one(answer string) {
	switch answer {
	case "open", "shape", "basis":
		c[answer]++
	default:
		c["row"]++
	}
}

func (c counted) atLeast(t *testing.T, least int, kinds ...string) {
	t.Helper()
	for _, kind := range kinds {
		if c[kind] < least {
			t.Errorf("%s: %d times", kind, c[kind])
		}
	}
}

func TestCombinePlainly(t *testing.T) {
	s := scatter(88172645463325252)
	count := counted{}
	for range 20000 {
		p := s.problem(s.below(7), s.below(5))
		s.loosened(p)
		by := s.by(len(p.Rows))
		if s.below(30) == 0 {
			by = s.by(s.below(5))
		}
		want := plainCombine(p, by)
		count.one(want)
		twin := linear.Twin(p)
		if got := answered(Combine(p, by)); got != want {
			t.Fatalf("%+v by %v: %s, want %s", p, texts(by), got, want)
		}
		if !reflect.DeepEqual(p, twin) {
			t.Fatalf("%+v has changed", twin)
		}
	}
	count.atLeast(t, 400, "row", "open", "shape")
}

func TestMixedPlainly(t *testing.T) {
	s := scatter(2463534242)
	count := counted{}
	for range 15000 {
		p := s.problem(1+s.below(6), 1+s.below(4))
		s.loosened(p)
		where := s.where(p)
		twin := linear.Twin(p)
		for col := -1; col <= len(p.Cols); col++ {
			want := plainMixed(p, where, col)
			count.one(want)
			if got := answered(Mixed(p, where, col)); got != want {
				t.Fatalf("%+v at %v, column %d: %s, want %s", p, where, col, got, want)
			}
		}
		if !reflect.DeepEqual(p, twin) {
			t.Fatalf("%+v has changed", twin)
		}
	}
	count.atLeast(t, 1000, "row", "open", "shape", "basis")
}

func TestCoverPlainly(t *testing.T) {
	s := scatter(362436069)
	count := counted{}
	for range 40000 {
		p := s.problem(1+s.below(6), 1+s.below(3))
		s.loosened(p)
		i := s.below(len(p.Rows))
		set := s.set(p, i)
		want := plainCover(p, i, set)
		count.one(want)
		if got := answered(Cover(p, i, set)); got != want {
			t.Fatalf("%+v, row %d, %v: %s, want %s", p, i, set, got, want)
		}
	}
	count.atLeast(t, 500, "row", "open", "shape")
}

// most is the most that a sum of terms can be at whole points of a problem, by all that its whole columns may be; that there is no such point; or that there is no end.
func most(t *testing.T, p *linear.Problem, terms []linear.Term) (int, ratio.R) {
	t.Helper()
	q := linear.Twin(p)
	q.Max, q.Shift = true, ratio.R{}
	for j := range q.Cols {
		q.Cols[j].Cost = ratio.R{}
	}
	for _, term := range terms {
		q.Cols[term.Col].Cost = term.By
	}
	return mostFrom(t, q, 0)
}

func mostFrom(t *testing.T, p *linear.Problem, col int) (int, ratio.R) {
	t.Helper()
	for col < len(p.Cols) && !p.Cols[col].Whole {
		col++
	}
	if col == len(p.Cols) {
		c, _, err := simplex.Solve(p)
		if err != nil {
			t.Fatal(err)
		}
		return c.Kind, c.Value
	}
	kind, value := api.None, ratio.R{}
	first, _ := p.Cols[col].Low.At.Ceil().Int64()
	last, _ := p.Cols[col].High.At.Floor().Int64()
	for number := first; number <= last; number++ {
		q := linear.Twin(p)
		q.Cols[col].Low, q.Cols[col].High = bound(ratio.Int(number)), bound(ratio.Int(number))
		k, v := mostFrom(t, q, col+1)
		if k == api.Endless {
			return k, v
		}
		if k == api.Best && (kind == api.None || v.Cmp(value) > 0) {
			kind, value = k, v
		}
	}
	return kind, value
}

// kept asks that all whole points keep a row, and is whether there are any, and whether one of them reaches it.
func kept(t *testing.T, p *linear.Problem, r linear.Row) (some, reached bool) {
	t.Helper()
	terms, side := r.Terms, r.High.At
	if r.Low.Has {
		terms, side = nil, r.Low.At.Neg()
		for _, term := range r.Terms {
			terms = append(terms, linear.Term{Col: term.Col, By: term.By.Neg()})
		}
	}
	kind, value := most(t, p, terms)
	if kind == api.Endless || kind == api.Best && value.Cmp(side) > 0 {
		t.Fatalf("%+v: %s is not kept: %s", p, told(r), value.Text())
	}
	return kind == api.Best, kind == api.Best && value.Cmp(side) == 0
}

// TestKept: no row leaves out a whole point.
func TestKept(t *testing.T) {
	s := scatter(521288629)
	var rows, some, reached [3]int
	note := func(which int, p *linear.Problem, r linear.Row) {
		rows[which]++
		points, just := kept(t, p, r)
		if points {
			some[which]++
		}
		if just {
			reached[which]++
		}
	}
	for range 4000 {
		p := s.problem(1+s.below(4), 1+s.below(3))
		if r, err := Combine(p, s.by(len(p.Rows))); err == nil {
			note(0, p, r)
		}
		where := s.where(p)
		for col := range p.Cols {
			r, err := Mixed(p, where, col)
			if err != nil {
				continue
			}
			note(1, p, r)
			missed(t, p, where, r)
		}
		i := s.below(len(p.Rows))
		if r, err := Cover(p, i, s.set(p, i)); err == nil {
			note(2, p, r)
		}
	}
	for which := range rows {
		if rows[which] < 100 || some[which] < 30 || reached[which] < 10 {
			t.Errorf("%d: %d rows, %d with points, %d reached", which, rows[which], some[which], reached[which])
		}
	}
}

// missed asks that the basis's point does not keep a row: there all steps are 0, and 1 is asked of them.
func missed(t *testing.T, p *linear.Problem, where []int, r linear.Row) {
	t.Helper()
	f, err := simplex.FrameOf(p, where)
	if err != nil {
		t.Fatal(err)
	}
	if linear.Sum(r.Terms, f.X).Cmp(r.Low.At.Sub(ratio.Int(1))) != 0 {
		t.Fatalf("%+v at %v: %s is not missed by 1", p, where, told(r))
	}
}

// TestCutOff: rows of best bases are new: with them in the problem the best point is another one, or there is none.
func TestCutOff(t *testing.T) {
	s := scatter(123456789)
	count := 0
	for range 12000 {
		p := s.problem(1+s.below(6), 1+s.below(5))
		c, where, err := simplex.Solve(p)
		if err != nil || c.Kind != api.Best {
			continue
		}
		for col := range p.Cols {
			r, err := Mixed(p, where, col)
			if err != nil {
				continue
			}
			count++
			missed(t, p, where, r)
			r.Name = "cut"
			q := linear.Twin(p)
			q.Rows = append(q.Rows, r)
			if err := linear.Valid(q); err != nil {
				t.Fatalf("%+v: %v", q, err)
			}
			if ok, _ := linear.Holds(q, c.X, false); ok {
				t.Fatalf("%+v: %v still holds", q, texts(c.X))
			}
		}
	}
	if count < 500 {
		t.Errorf("%d rows", count)
	}
}

// TestLargest: as many columns and rows as there may be.
func TestLargest(t *testing.T) {
	s := scatter(41)
	p := &linear.Problem{Max: true}
	for j := range api.MaxCols {
		p.Cols = append(p.Cols, linear.Col{Name: "c" + strconv.Itoa(j), Whole: true, Low: linear.Bound{Has: true}, High: bound(ratio.Int(1)), Cost: ratio.Int(int64(1 + s.below(9)))})
	}
	for i := range api.MaxRows {
		row := linear.Row{Name: "r" + strconv.Itoa(i), High: bound(ratio.Int(int64(2 + s.below(9))))}
		for j := range api.MaxCols {
			if i == j || s.below(15) == 0 {
				row.Terms = append(row.Terms, linear.Term{Col: j, By: ratio.Int(int64(1 + s.below(9)))})
			}
		}
		p.Rows = append(p.Rows, row)
	}
	c, where, err := simplex.Solve(p)
	if err != nil || c.Kind != api.Best {
		t.Fatalf("%d, %v", c.Kind, err)
	}
	if got, want := answered(Combine(p, c.Y)), plainCombine(p, c.Y); got != want {
		t.Errorf("%s, want %s", got, want)
	}
	col := slices.IndexFunc(c.X, func(x ratio.R) bool { return !x.IsWhole() })
	if got, want := answered(Mixed(p, where, col)), plainMixed(p, where, col); got != want || col < 0 {
		t.Errorf("column %d: %s, want %s", col, got, want)
	}
	var set []int
	for _, term := range p.Rows[7].Terms {
		set = append(set, term.Col)
	}
	if got, want := answered(Cover(p, 7, set)), plainCover(p, 7, set); got != want {
		t.Errorf("%s, want %s", got, want)
	}
}
