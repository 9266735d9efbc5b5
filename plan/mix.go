package plan

import (
	"slices"

	"optima/api"
	"optima/matrix"
	"optima/ratio"
)

// column is what of each size comes of a roll that is cut, or of a piece that is thrown away: one less.
type column struct {
	brings []int
	rolls  int64 // 1; of a piece 0
}

// mix is as many columns as there are sizes, by which just what is wanted comes: each so many times, not below 0.
type mix struct {
	roll    int
	sizes   []api.Size
	wants   []ratio.R
	columns []column
	by      *matrix.LU // of the table that has what the columns bring as its columns
}

// mixOf is one where each roll is cut into one size alone.
func mixOf(roll int, sizes []api.Size) *mix {
	m := &mix{roll: roll, sizes: sizes}
	var table [][]ratio.R
	for i, size := range sizes {
		brings := make([]int, len(sizes))
		brings[i] = roll / size.Long
		m.columns = append(m.columns, column{brings, 1})
		m.wants = append(m.wants, ratio.Int(int64(size.Want)))
		table = append(table, fractions(brings)) // but for its diagonal it is 0, so that it does not matter which way it lies
	}
	m.by, _ = matrix.Factor(table)
	return m
}

// better takes one step to fewer rolls; false, if there is none.
func (m *mix) better() bool {
	next, found := m.coming()
	if !found {
		return false
	}
	i := m.leaving(next)
	m.columns[i] = next
	m.by, _ = m.by.Replace(i, fractions(next.brings))
	return true
}

// worth is what a piece of each size is worth, when each column is worth its rolls.
func (m *mix) worth() []ratio.R {
	rolls := make([]ratio.R, len(m.columns))
	for i, c := range m.columns {
		rolls[i] = ratio.Int(c.rolls)
	}
	out, _ := m.by.Left(rolls)
	return out
}

// times is how many times each column is there.
func (m *mix) times() []ratio.R {
	out, _ := m.by.Solve(m.wants)
	return out
}

// coming is a column that is worth more than its rolls; false, if there is none.
func (m *mix) coming() (column, bool) {
	worth := m.worth()
	if below := slices.IndexFunc(worth, isBelow); below >= 0 {
		brings := make([]int, len(worth))
		brings[below] = -1
		return column{brings, 0}, true
	}
	k := knapsackOf(m.roll, m.sizes, worth)
	return column{k.pattern(), 1}, k.isAboveOne()
}

// leaving is the column that goes for another one: the first that comes to nought, the more there is of the other.
func (m *mix) leaving(next column) int {
	parts, _ := m.by.Solve(fractions(next.brings))
	times := m.times()
	out := -1
	for i, part := range parts {
		if part.Sign() > 0 && (out < 0 || m.isAhead(i, out, times, parts)) {
			out = i
		}
	}
	return out
}

// isAhead is whether a column comes to nought ahead of another one, each from its times by its part.
//
// Where both do so at once, what undoes the table decides, as if a little more were wanted of each size, of each much less than of the one ahead: so each step, also one by which no rolls are spared, leads on, and no mix comes again.
func (m *mix) isAhead(i, k int, times, parts []ratio.R) bool {
	order := func(ours, theirs ratio.R) int { return ours.Mul(parts[k]).Cmp(theirs.Mul(parts[i])) }
	if first := order(times[i], times[k]); first != 0 {
		return first < 0
	}
	return slices.CompareFunc(m.undoing(i), m.undoing(k), order) < 0
}

// undoing is by what of each size a column is told.
func (m *mix) undoing(i int) []ratio.R {
	only := make([]ratio.R, len(m.columns))
	only[i] = ratio.Int(1)
	out, _ := m.by.Left(only)
	return out
}

// cutting tells the patterns that are there at all.
func (m *mix) cutting() *Cutting {
	c := &Cutting{Worth: m.worth()}
	for i, times := range m.times() {
		if m.columns[i].rolls > 0 && times.Sign() > 0 {
			c.Patterns = append(c.Patterns, m.columns[i].brings)
			c.Times = append(c.Times, times)
			c.Rolls = c.Rolls.Add(times)
		}
	}
	return c
}

func fractions(list []int) []ratio.R {
	out := make([]ratio.R, len(list))
	for i, n := range list {
		out[i] = ratio.Int(int64(n))
	}
	return out
}
