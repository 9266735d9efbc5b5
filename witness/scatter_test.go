package witness

import (
	"testing"

	"optima/api"
	"optima/linear"
	"optima/ratio"
)

// scatter makes small problems and claims out of a fixed rule.
type scatter uint64

func (s *scatter) below(n int) int {
	*s ^= *s << 13
	*s ^= *s >> 7
	*s ^= *s << 17
	return int(uint64(*s) % uint64(n))
}

// around is a number from -n to n.
func (s *scatter) around(n int) int { return s.below(2*n+1) - n }

// side is a bound in small whole numbers.
type side struct {
	has bool
	at  int
}

// small is a problem in small whole numbers, each row with a number for each column.
type small struct {
	max       bool
	shift     int
	cost      []int
	low, high []side
	rows      [][]int
	rowLow    []side
	rowHigh   []side
}

func (s *scatter) sides(cross bool) (low, high side) {
	low = side{s.below(3) > 0, s.around(3)}
	high = side{s.below(3) > 0, s.around(3)}
	if !cross && low.at > high.at {
		low.at, high.at = high.at, low.at
	}
	return low, high
}

func (s *scatter) small() small {
	q := small{max: s.below(2) == 0, shift: s.around(2)}
	cross := s.below(4) == 0
	for range s.below(3) {
		low, high := s.sides(cross)
		q.cost, q.low, q.high = append(q.cost, s.around(2)), append(q.low, low), append(q.high, high)
	}
	for range s.below(3) {
		low, high := s.sides(cross)
		q.rows, q.rowLow, q.rowHigh = append(q.rows, s.list(len(q.cost), 2)), append(q.rowLow, low), append(q.rowHigh, high)
	}
	return q
}

func (s *scatter) list(length, size int) []int {
	var out []int
	for range length {
		out = append(out, s.around(size))
	}
	return out
}

func (q small) problem() *linear.Problem {
	bound := func(b side) linear.Bound { return linear.Bound{Has: b.has, At: ratio.Int(int64(b.at))} }
	p := &linear.Problem{Max: q.max, Shift: ratio.Int(int64(q.shift))}
	for i, cost := range q.cost {
		p.Cols = append(p.Cols, linear.Col{Name: string(rune('a' + i)), Whole: i == 1, Low: bound(q.low[i]), High: bound(q.high[i]), Cost: ratio.Int(int64(cost))})
	}
	for i, row := range q.rows {
		r := linear.Row{Name: string(rune('a' + i)), Low: bound(q.rowLow[i]), High: bound(q.rowHigh[i])}
		for k, by := range row {
			if by != 0 {
				r.Terms = append(r.Terms, linear.Term{Col: k, By: ratio.Int(int64(by))})
			}
		}
		p.Rows = append(p.Rows, r)
	}
	return p
}

func fractions(list []int) []ratio.R {
	var out []ratio.R
	for _, n := range list {
		out = append(out, ratio.Int(int64(n)))
	}
	return out
}

func times(a, b []int) int {
	total := 0
	for i := range a {
		total += a[i] * b[i]
	}
	return total
}

// least is the least of numbers times something between their sides.
func least(by []int, low, high []side) (int, bool) {
	total := 0
	for i, n := range by {
		switch {
		case n > 0 && low[i].has:
			total += n * low[i].at
		case n < 0 && high[i].has:
			total += n * high[i].at
		case n != 0:
			return 0, false
		}
	}
	return total, true
}

// most is the least of all opposites.
func most(by []int, low, high []side) (int, bool) {
	total, ends := least(turned(by), low, high)
	return -total, ends
}

func turned(list []int) []int {
	var out []int
	for _, n := range list {
		out = append(out, -n)
	}
	return out
}

// paid is of each column what the prices y pay for it.
func (q small) paid(y []int) []int {
	out := make([]int, len(q.cost))
	for k := range q.cost {
		for i := range q.rows {
			out[k] += y[i] * q.rows[i][k]
		}
	}
	return out
}

func (q small) limit(y []int) (int, bool) {
	left := q.paid(y)
	for i, cost := range q.cost {
		left[i] = cost - left[i]
	}
	edge := least
	if q.max {
		edge = most
	}
	rows, a := edge(y, q.rowLow, q.rowHigh)
	cols, b := edge(left, q.low, q.high)
	return q.shift + rows + cols, a && b
}

func (q small) holds(x []int) bool {
	keeps := func(n int, low, high side) bool { return (!low.has || n >= low.at) && (!high.has || n <= high.at) }
	for i, n := range x {
		if !keeps(n, q.low[i], q.high[i]) {
			return false
		}
	}
	for i, row := range q.rows {
		if !keeps(times(row, x), q.rowLow[i], q.rowHigh[i]) {
			return false
		}
	}
	return true
}

// points are those of small whole numbers.
func (q small) points() [][]int {
	out := [][]int{nil}
	for range q.cost {
		var longer [][]int
		for _, x := range out {
			for n := -6; n <= 6; n++ {
				longer = append(longer, append(x[:len(x):len(x)], n))
			}
		}
		out = longer
	}
	return out
}

// better is whether one value is better than another.
func (q small) better(one, other int) bool {
	if q.max {
		return one > other
	}
	return one < other
}

func TestLimitScattered(t *testing.T) {
	s := scatter(88172645463325252)
	ends, open := 0, 0
	for range 4000 {
		q := s.small()
		y := s.list(len(q.rows), 2)
		v, has, err := Limit(q.problem(), fractions(y))
		want, wanted := q.limit(y)
		if !wanted {
			want = 0
		}
		if err != nil || has != wanted || v.Cmp(ratio.Int(int64(want))) != 0 {
			t.Fatalf("%+v at %v: %s, %v, %v", q, y, v.Text(), has, err)
		}
		if !has {
			open++
			continue
		}
		ends++
		for _, x := range q.points() {
			if value := q.shift + times(q.cost, x); q.holds(x) && q.better(value, want) {
				t.Fatalf("%+v at %v: %d, but %v costs %d", q, y, want, x, value)
			}
		}
	}
	if ends < 1000 || open < 1000 {
		t.Errorf("%d with an end, %d without", ends, open)
	}
}

// TestBestScattered: a claim shows itself just where the point is one that holds and its value is the limit; then no other point is better.
func TestBestScattered(t *testing.T) {
	s := scatter(362436069)
	yes, no := 0, 0
	for range 20000 {
		q := s.small()
		x, y := s.list(len(q.cost), 3), s.list(len(q.rows), 2)
		value := q.shift + times(q.cost, x)
		limit, ends := q.limit(y)
		want := q.holds(x) && ends && limit == value
		ok, err := Check(q.problem(), Claim{Kind: api.Best, X: fractions(x), Y: fractions(y), Value: ratio.Int(int64(value))})
		if err != nil || ok != want {
			t.Fatalf("%+v, %v, %v: %v, %v", q, x, y, ok, err)
		}
		if !ok {
			no++
			continue
		}
		yes++
		for _, other := range q.points() {
			if q.holds(other) && q.better(q.shift+times(q.cost, other), value) {
				t.Fatalf("%+v, %v, %v: %v is better", q, x, y, other)
			}
		}
	}
	if yes < 1000 || no < 1000 {
		t.Errorf("%d show themselves, %d do not", yes, no)
	}
}

// TestNoneScattered: where a claim None shows itself, no point holds.
func TestNoneScattered(t *testing.T) {
	s := scatter(521288629)
	yes, no := 0, 0
	for range 20000 {
		q := s.small()
		var y []int
		if s.below(4) > 0 {
			y = s.list(len(q.rows), 2)
		}
		want := q.crosses() && len(y) == 0
		if len(y) == len(q.rows) {
			a, below := least(y, q.rowLow, q.rowHigh)
			b, above := most(q.paid(y), q.low, q.high)
			want = want || below && above && a > b
		}
		ok, err := Check(q.problem(), Claim{Kind: api.None, Y: fractions(y)})
		if err != nil || ok != want {
			t.Fatalf("%+v, %v: %v, %v", q, y, ok, err)
		}
		if !ok {
			no++
			continue
		}
		yes++
		for _, x := range q.points() {
			if q.holds(x) {
				t.Fatalf("%+v, %v: %v holds", q, y, x)
			}
		}
	}
	if yes < 500 || no < 1000 {
		t.Errorf("%d show themselves, %d do not", yes, no)
	}
}

func (q small) crosses() bool {
	cross := false
	look := func(low, high []side) {
		for i := range low {
			cross = cross || low[i].has && high[i].has && low[i].at > high[i].at
		}
	}
	look(q.low, q.high)
	look(q.rowLow, q.rowHigh)
	return cross
}

// TestEndlessScattered: a claim Endless shows itself just where one can go far along the ray, each step better. (Bounds are near, so that some thousand steps tell it all.)
func TestEndlessScattered(t *testing.T) {
	s := scatter(2463534242)
	yes, no := 0, 0
	for range 60000 {
		q := s.small()
		x, ray := s.list(len(q.cost), 3), s.list(len(q.cost), 2)
		far := make([]int, len(x))
		for i := range x {
			far[i] = x[i] + 5000*ray[i]
		}
		want := q.holds(x) && q.holds(far) && q.better(times(q.cost, ray), 0)
		ok, err := Check(q.problem(), Claim{Kind: api.Endless, X: fractions(x), Ray: fractions(ray)})
		if err != nil || ok != want {
			t.Fatalf("%+v, %v, %v: %v, %v", q, x, ray, ok, err)
		}
		if ok {
			yes++
		} else {
			no++
		}
	}
	if yes < 500 || no < 1000 {
		t.Errorf("%d show themselves, %d do not", yes, no)
	}
}
