package branch

import (
	"strconv"
	"strings"
	"testing"

	"optima/api"
	"optima/linear"
	"optima/ratio"
)

func at(n int) linear.Bound { return linear.Bound{Has: true, At: ratio.Int(int64(n))} }

// wholes are columns from 0 to high.
func wholes(n, high int, cost func(i int) int) []linear.Col {
	var out []linear.Col
	for i := range n {
		out = append(out, linear.Col{Name: "c" + strconv.Itoa(i), Whole: true, Low: at(0), High: at(high), Cost: ratio.Int(int64(cost(i)))})
	}
	return out
}

func row(name string, by []int, low, high linear.Bound) linear.Row {
	out := linear.Row{Name: name, Low: low, High: high}
	for i, b := range by {
		if b != 0 {
			out.Terms = append(out.Terms, linear.Term{Col: i, By: ratio.Int(int64(b))})
		}
	}
	return out
}

func (s *scatter) list(n, from, to int) []int {
	out := make([]int, n)
	for i := range out {
		out[i] = from + s.below(to-from+1)
	}
	return out
}

// TestAllTried: problems of whole columns, each of whose points is tried.
func TestAllTried(t *testing.T) {
	s := scatter(123456789)
	var long, none int
	for range 400 {
		n, high := 4+s.below(3), 1+s.below(3)
		worth := s.list(n, -9, 20)
		p := &linear.Problem{Max: s.below(2) == 0, Cols: wholes(n, high, func(i int) int { return worth[i] })}
		lists, sides := [][]int{}, [][2]int{}
		for i := range 1 + s.below(3) {
			list := s.list(n, -5, 15)
			low := s.below(20) - 5
			side := [2]int{low, low + s.below(9)}
			lists, sides = append(lists, list), append(sides, side)
			p.Rows = append(p.Rows, row("r"+strconv.Itoa(i), list, at(side[0]), at(side[1])))
		}
		best, some := 0, false
		x := make([]int, n)
		var walk func(col int)
		walk = func(col int) {
			if col < n {
				for x[col] = 0; x[col] <= high; x[col]++ {
					walk(col + 1)
				}
				return
			}
			for i, list := range lists {
				if sum := dot(list, x); sum < sides[i][0] || sum > sides[i][1] {
					return
				}
			}
			if v := dot(worth, x); !some || p.Max && v > best || !p.Max && v < best {
				best, some = v, true
			}
		}
		walk(0)
		a, l := solved(t, p)
		if some != (a.Kind == api.Best) || a.Value.Cmp(ratio.Int(int64(best))) != 0 {
			t.Fatalf("%+v: %d, %s, want %v, %d", p, a.Kind, a.Value.Text(), some, best)
		}
		if !plainCheck(p, a, l) {
			t.Fatalf("%+v: by the document's words %s shows nothing", p, told(l))
		}
		if len(l) > 5 {
			long++
		}
		if !some {
			none++
		}
	}
	if min(long, none) < 50 {
		t.Errorf("%d long, %d none", long, none)
	}
}

func dot(a, b []int) int {
	sum := 0
	for i := range a {
		sum += a[i] * b[i]
	}
	return sum
}

// TestSacks: of many things, with one sack or more, by what is best for each weight.
func TestSacks(t *testing.T) {
	s := scatter(2463534242)
	for _, n := range []int{10, 30, api.MaxCols} {
		worth, weight := s.list(n, 10, 99), s.list(n, 5, 64)
		room := 0
		for _, w := range weight {
			room += w
		}
		room /= 2
		best := make([]int, room+1)
		for i, w := range weight {
			for r := room; r >= w; r-- {
				best[r] = max(best[r], best[r-w]+worth[i])
			}
		}
		p := &linear.Problem{Max: true, Cols: wholes(n, 1, func(i int) int { return worth[i] }), Rows: []linear.Row{row("r", weight, linear.Bound{}, at(room))}}
		if a, _ := solved(t, p); a.Value.Cmp(ratio.Int(int64(best[room]))) != 0 {
			t.Errorf("%d things: %s, want %d", n, a.Value.Text(), best[room])
		}
	}
}

// TestParity: sums that are even can't be odd, which splits alone find out too late.
func TestParity(t *testing.T) {
	const n = 61
	twos := make([]int, n)
	for i := range twos {
		twos[i] = 2
	}
	p := &linear.Problem{Max: true, Cols: wholes(n, 1, func(i int) int { return 1 + i%3 }), Rows: []linear.Row{row("r", twos, at(n), at(n))}}
	if a, l := solved(t, p); a.Kind != api.None || len(l) > 20 {
		t.Errorf("%d by %d lines", a.Kind, len(l))
	}
	// at most is not equal: 30 of them, the dearest ones
	p.Rows[0].Low = linear.Bound{}
	if a, l := solved(t, p); a.Value.Text() != "80" || len(l) > 200 {
		t.Errorf("%s by %d lines", a.Value.Text(), len(l))
	}
	// behind a split
	p = &linear.Problem{Cols: wholes(n+1, 1, func(i int) int { return i % 2 }), Rows: []linear.Row{
		row("r", append(twos, 1), at(n), at(n)),
		row("s", append(make([]int, n), 3), linear.Bound{}, at(2)),
	}}
	if a, l := solved(t, p); a.Kind != api.None || len(l) > 20 {
		t.Errorf("%d by %d lines", a.Kind, len(l))
	}
}

// TestCovers: the fewest sets that have all; costs go by whole numbers, so that rounding them ends much.
func TestCovers(t *testing.T) {
	s := scatter(88675123)
	const sets, things = 14, 12
	for range 10 {
		has := make([]int, sets) // a bit for each thing
		p := &linear.Problem{Cols: wholes(sets, 1, func(int) int { return 1 })}
		for i := range things {
			by := make([]int, sets)
			for range 3 {
				k := s.below(sets)
				by[k] = 1
				has[k] |= 1 << i
			}
			p.Rows = append(p.Rows, row("r"+strconv.Itoa(i), by, at(1), linear.Bound{}))
		}
		fewest := sets
		for chosen := range 1 << sets {
			all, count := 0, 0
			for k, h := range has {
				if chosen>>k&1 == 1 {
					all |= h
					count++
				}
			}
			if all == 1<<things-1 {
				fewest = min(fewest, count)
			}
		}
		if a, _ := solved(t, p); a.Value.Cmp(ratio.Int(int64(fewest))) != 0 {
			t.Errorf("%s, want %d", a.Value.Text(), fewest)
		}
	}
}

// TestTours: the shortest way through all places, with places in an order that need not be whole.
func TestTours(t *testing.T) {
	s := scatter(521288629)
	const n = 6
	for range 4 {
		var far [n][n]int
		p := &linear.Problem{}
		var from [n][n]int // which column goes from one place to another
		for i := range n {
			for j := range n {
				if i != j {
					far[i][j] = 1 + s.below(40)
					from[i][j] = len(p.Cols)
					p.Cols = append(p.Cols, linear.Col{Name: "x" + strconv.Itoa(len(p.Cols)), Whole: true, Low: at(0), High: at(1), Cost: ratio.Int(int64(far[i][j]))})
				}
			}
		}
		when := len(p.Cols)
		for i := range n {
			p.Cols = append(p.Cols, linear.Col{Name: "u" + strconv.Itoa(i), Low: at(0), High: at(n - 1)})
		}
		for i := range n {
			out, in := make([]int, len(p.Cols)), make([]int, len(p.Cols))
			for j := range n {
				if i != j {
					out[from[i][j]], in[from[j][i]] = 1, 1
				}
				if i != j && i > 0 && j > 0 {
					by := make([]int, len(p.Cols))
					by[when+i], by[when+j], by[from[i][j]] = 1, -1, n
					p.Rows = append(p.Rows, row("m"+strconv.Itoa(i*n+j), by, linear.Bound{}, at(n-1)))
				}
			}
			p.Rows = append(p.Rows, row("o"+strconv.Itoa(i), out, at(1), at(1)), row("i"+strconv.Itoa(i), in, at(1), at(1)))
		}
		best := 1 << 30
		var walk func(here, been, length int)
		walk = func(here, been, length int) {
			if been == 1<<n-1 {
				best = min(best, length+far[here][0])
			}
			for next := range n {
				if been>>next&1 == 0 {
					walk(next, been|1<<next, length+far[here][next])
				}
			}
		}
		walk(0, 1, 0)
		if a, _ := solved(t, p); a.Value.Cmp(ratio.Int(int64(best))) != 0 {
			t.Errorf("%s, want %d", a.Value.Text(), best)
		}
	}
}

// TestFull: as many rows as there may be, so that there is no room for one more.
func TestFull(t *testing.T) {
	p := problem(t, doc)
	for len(p.Rows) < api.MaxRows {
		p.Rows = append(p.Rows, row("r"+strconv.Itoa(len(p.Rows)), []int{1, len(p.Rows)}, linear.Bound{}, at(400)))
	}
	if a, l := solved(t, p); a.Value.Text() != "2" {
		t.Errorf("%s by %s", a.Value.Text(), told(l))
	}
	p.Rows = p.Rows[:api.MaxRows-1] // room for just one
	if a, l := solved(t, p); a.Value.Text() != "2" {
		t.Errorf("%s by %s", a.Value.Text(), told(l))
	}
	p.Rows[0].Low = p.Rows[0].High
	if a, l := solved(t, p); a.Kind != api.None {
		t.Errorf("%s by %s", a.Value.Text(), told(l))
	}
}

// TestChains: thousands of problems that come of each other, one behind the other.
func TestChains(t *testing.T) {
	for _, c := range []struct{ one, other, total, high int }{{3141, 2719, 9000001, 3000}, {1000, 1001, 1500500, 1000}} {
		p := &linear.Problem{Max: true, Cols: wholes(2, c.high, func(i int) int { return i }), Rows: []linear.Row{row("r", []int{c.one, c.other}, at(c.total), at(c.total))}}
		best := -1
		for y := range c.high + 1 {
			if rest := c.total - c.other*y; rest >= 0 && rest%c.one == 0 && rest/c.one <= c.high {
				best = y
			}
		}
		a, l := solved(t, p)
		if (a.Kind == api.Best) != (best >= 0) || best >= 0 && a.Value.Cmp(ratio.Int(int64(best))) != 0 || len(l) < 1000 {
			t.Errorf("%+v: %d, %s by %d lines, want %d", c, a.Kind, a.Value.Text(), len(l), best)
		}
	}
}

// TestGreatNumbers: of hundreds of digits.
func TestGreatNumbers(t *testing.T) {
	noughts, nines := strings.Repeat("0", 199), strings.Repeat("9", 199)
	high := " integer >= 0 <= 10" + noughts + "; "
	a, _ := solved(t, problem(t, "var x"+high+"var y"+high+"maximize z: x + y; subject r: 2 * x + 2 * y <= 1"+noughts+"1; subject s: x - y = 1;"))
	if a.Kind != api.Best || a.Value.Text() != "4"+nines {
		t.Errorf("%d, %s", a.Kind, a.Value.Text())
	}
}
