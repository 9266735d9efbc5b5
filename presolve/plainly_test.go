package presolve

import (
	"strings"

	"optima/linear"
	"optima/plain"
	"optima/ratio"
	"optima/whole"
)

// words is a problem for the document's rules as they are said: full tables, columns and rows struck out, and nothing remembered.
type words struct {
	p        *linear.Problem
	by       [][]ratio.R
	noCol    []bool
	noRow    []bool
	steps    []string
	nothing  bool
	low, top []linear.Bound // of columns
	from, to []linear.Bound // of rows
	cost     []ratio.R
	shift    ratio.R
}

// plainly tells the same line as told, and counts which rules did something.
func plainly(p *linear.Problem, did *[8]int) string {
	w := &words{p: p, noCol: make([]bool, len(p.Cols)), noRow: make([]bool, len(p.Rows)), shift: p.Shift}
	for _, c := range p.Cols {
		w.low, w.top, w.cost = append(w.low, c.Low), append(w.top, c.High), append(w.cost, c.Cost)
	}
	for _, r := range p.Rows {
		line := make([]ratio.R, len(p.Cols))
		for _, t := range r.Terms {
			line[t.Col] = t.By
		}
		w.by, w.from, w.to = append(w.by, line), append(w.from, r.Low), append(w.to, r.High)
	}
	for {
		rule := w.once()
		if w.nothing {
			did[rule]++
			return "none"
		}
		if rule == 0 {
			return w.text()
		}
		did[rule]++
	}
}

func (w *words) once() int {
	for rule := 1; rule <= 7; rule++ {
		places := len(w.noRow)
		if rule == 4 || rule == 5 {
			places = len(w.noCol)
		}
		if rule == 1 {
			places = len(w.noCol) + len(w.noRow)
		}
		for at := range places {
			if w.try(rule, at) {
				return rule
			}
		}
	}
	return 0
}

func (w *words) try(rule, at int) bool {
	switch rule {
	case 1:
		if at >= len(w.noCol) {
			at -= len(w.noCol)
			w.nothing = !w.noRow[at] && w.from[at].Has && w.to[at].Has && w.from[at].At.Cmp(w.to[at].At) > 0
			return w.nothing
		}
		w.nothing = !w.noCol[at] && w.low[at].Has && w.top[at].Has && w.low[at].At.Cmp(w.top[at].At) > 0
		return w.nothing
	case 2:
		if w.noRow[at] || len(w.in(at)) != 0 {
			return false
		}
		w.noRow[at] = true
		w.nothing = w.from[at].Has && w.from[at].At.Sign() > 0 || w.to[at].Has && w.to[at].At.Sign() < 0
		return true
	case 3:
		return !w.noRow[at] && w.bounds(at)
	case 4:
		if w.noCol[at] || !w.low[at].Has || !w.top[at].Has || w.low[at].At.Cmp(w.top[at].At) != 0 {
			return false
		}
		if w.p.Cols[at].Whole && !w.low[at].At.IsWhole() {
			w.nothing = true
			return true
		}
		w.put(at, w.low[at].At, -1, ratio.R{})
		return true
	case 5:
		return !w.noCol[at] && w.alone(at)
	case 6:
		return !w.noRow[at] && w.leastMost(at)
	}
	return !w.noRow[at] && w.twoTerms(at)
}

// in is which columns stand in a row.
func (w *words) in(row int) []int {
	var out []int
	for col, by := range w.by[row] {
		if by.Sign() != 0 {
			out = append(out, col)
		}
	}
	return out
}

func (w *words) up(col int, low ratio.R) {
	if w.p.Cols[col].Whole {
		low, _ = ratio.Of(low.Ceil(), whole.Of(1))
	}
	if !w.low[col].Has || low.Cmp(w.low[col].At) > 0 {
		w.low[col] = linear.Bound{Has: true, At: low}
	}
}

func (w *words) down(col int, high ratio.R) {
	if w.p.Cols[col].Whole {
		high, _ = ratio.Of(high.Floor(), whole.Of(1))
	}
	if !w.top[col].Has || high.Cmp(w.top[col].At) < 0 {
		w.top[col] = linear.Bound{Has: true, At: high}
	}
}

func (w *words) bounds(row int) bool {
	cols := w.in(row)
	if len(cols) != 1 {
		return false
	}
	w.noRow[row] = true
	col := cols[0]
	by := w.by[row][col]
	if w.from[row].Has {
		at, _ := w.from[row].At.Quo(by)
		if by.Sign() > 0 {
			w.up(col, at)
		} else {
			w.down(col, at)
		}
	}
	if w.to[row].Has {
		at, _ := w.to[row].At.Quo(by)
		if by.Sign() > 0 {
			w.down(col, at)
		} else {
			w.up(col, at)
		}
	}
	return true
}

func (w *words) alone(col int) bool {
	for row := range w.by {
		if !w.noRow[row] && w.by[row][col].Sign() != 0 {
			return false
		}
	}
	if w.p.Cols[col].Whole {
		if w.low[col].Has {
			w.up(col, w.low[col].At)
		}
		if w.top[col].Has {
			w.down(col, w.top[col].At)
		}
	}
	low, top := w.low[col], w.top[col]
	if low.Has && top.Has && low.At.Cmp(top.At) > 0 {
		w.nothing = true
		return true
	}
	cost := w.cost[col].Sign()
	lowBetter, highBetter := cost > 0, cost < 0
	if w.p.Max {
		lowBetter, highBetter = highBetter, lowBetter
	}
	if lowBetter && low.Has || cost == 0 && low.Has {
		w.put(col, low.At, -1, ratio.R{})
		return true
	}
	if highBetter && top.Has || cost == 0 && top.Has {
		w.put(col, top.At, -1, ratio.R{})
		return true
	}
	if cost == 0 {
		w.put(col, ratio.R{}, -1, ratio.R{})
		return true
	}
	return false
}

func (w *words) leastMost(row int) bool {
	var least, most ratio.R
	hasLeast, hasMost := true, true
	for _, col := range w.in(row) {
		by := w.by[row][col]
		l, m := w.low[col], w.top[col]
		if by.Sign() < 0 {
			l, m = m, l
		}
		hasLeast, hasMost = hasLeast && l.Has, hasMost && m.Has
		least, most = least.Add(by.Mul(l.At)), most.Add(by.Mul(m.At))
	}
	from, to := w.from[row], w.to[row]
	if hasLeast && to.Has && least.Cmp(to.At) > 0 || hasMost && from.Has && most.Cmp(from.At) < 0 {
		w.nothing = true
		return true
	}
	if hasLeast && to.Has && least.Cmp(to.At) == 0 {
		w.all(row, func(by ratio.R) bool { return by.Sign() > 0 })
		return true
	}
	if hasMost && from.Has && most.Cmp(from.At) == 0 {
		w.all(row, func(by ratio.R) bool { return by.Sign() < 0 })
		return true
	}
	if from.Has && (!hasLeast || least.Cmp(from.At) < 0) || to.Has && (!hasMost || most.Cmp(to.At) > 0) {
		return false
	}
	w.noRow[row] = true
	return true
}

func (w *words) all(row int, atLow func(ratio.R) bool) {
	for _, col := range w.in(row) {
		if atLow(w.by[row][col]) {
			w.top[col] = w.low[col]
		} else {
			w.low[col] = w.top[col]
		}
	}
	w.noRow[row] = true
}

func (w *words) twoTerms(row int) bool {
	cols := w.in(row)
	if len(cols) != 2 || w.p.Cols[cols[0]].Whole || w.p.Cols[cols[1]].Whole {
		return false
	}
	if !w.from[row].Has || !w.to[row].Has || w.from[row].At.Cmp(w.to[row].At) != 0 {
		return false
	}
	w.noRow[row] = true
	a, b, c := w.by[row][cols[0]], w.by[row][cols[1]], w.from[row].At
	// what the first one is when the second one is at a bound; it goes up with it, if a and b are not on one side
	for side, bound := range []linear.Bound{w.low[cols[1]], w.top[cols[1]]} {
		if !bound.Has {
			continue
		}
		at, _ := c.Sub(b.Mul(bound.At)).Quo(a)
		if (side == 0) == (a.Sign() != b.Sign()) {
			w.up(cols[0], at)
		} else {
			w.down(cols[0], at)
		}
	}
	at, _ := c.Quo(b)
	by, _ := a.Neg().Quo(b)
	w.put(cols[1], at, cols[0], by)
	return true
}

// put says a column as at and, if other is one, by times another column.
func (w *words) put(col int, at ratio.R, other int, by ratio.R) {
	w.noCol[col] = true
	w.shift = w.shift.Add(at.Mul(w.cost[col]))
	text := w.p.Cols[col].Name + "=" + at.Text()
	if other >= 0 {
		w.cost[other] = w.cost[other].Add(by.Mul(w.cost[col]))
		text += "," + by.Text() + w.p.Cols[other].Name
	}
	w.steps = append(w.steps, text)
	for row := range w.by {
		if w.noRow[row] {
			continue
		}
		number := w.by[row][col]
		w.by[row][col] = ratio.R{}
		w.from[row].At = w.from[row].At.Sub(at.Mul(number))
		w.to[row].At = w.to[row].At.Sub(at.Mul(number))
		if other >= 0 {
			w.by[row][other] = w.by[row][other].Add(by.Mul(number))
		}
	}
}

func (w *words) text() string {
	out := append(w.steps, "min "+w.shift.Text())
	if w.p.Max {
		out[len(out)-1] = "max " + w.shift.Text()
	}
	for col, c := range w.p.Cols {
		if w.noCol[col] {
			continue
		}
		text := c.Name + ":" + plain.BoundText(w.low[col]) + ".." + plain.BoundText(w.top[col]) + "*" + w.cost[col].Text()
		if c.Whole {
			text += "w"
		}
		out = append(out, text)
	}
	for row, r := range w.p.Rows {
		if w.noRow[row] {
			continue
		}
		text := r.Name + ":" + plain.BoundText(w.from[row]) + ".." + plain.BoundText(w.to[row])
		for _, col := range w.in(row) {
			text += "," + w.by[row][col].Text() + w.p.Cols[col].Name
		}
		out = append(out, text)
	}
	return strings.Join(out, " ")
}
