package matrix

import (
	"slices"

	"optima/api"
	"optima/ratio"
	"optima/whole"
)

// LU is a square table that can be undone.
//
// Its columns are kept as whole numbers, each column times its number of by; undo times those is det in each place of the main diagonal, and 0 elsewhere. So another column costs one step over undo, and only answers are cancelled.
type LU struct {
	undo [][]whole.Z // never changed: others made of this one read its rows
	by   []ratio.R
	det  whole.Z // of the columns times by
}

// Factor is a in a form by which it is undone.
func Factor(a [][]ratio.R) (*LU, error) {
	width, ok := widthOf(a)
	if !ok || width != len(a) {
		return nil, api.ErrShape
	}
	f := unit(width)
	for col := range width {
		next, by := scaled(column(a, col))
		seen := f.seen(next)
		from := slices.IndexFunc(seen[col:], func(z whole.Z) bool { return z.Sign() != 0 })
		if from < 0 {
			return nil, api.ErrSingular
		}
		f.swap(seen, col, col+from)
		f = f.with(col, seen, by)
	}
	return f, nil
}

// Size is how many rows there are.
func (f *LU) Size() int {
	if f == nil {
		return 0
	}
	return len(f.undo)
}

// Det is the determinant.
func (f *LU) Det() ratio.R {
	if f == nil {
		return ratio.R{}
	}
	times := ratio.Int(1)
	for _, by := range f.by {
		times = times.Mul(by)
	}
	return parted(f.det, times)
}

// Solve is the x with A x = b.
func (f *LU) Solve(b []ratio.R) ([]ratio.R, error) {
	if f == nil || len(b) != f.Size() {
		return nil, api.ErrShape
	}
	right, times := scaled(b)
	out := f.parts(f.seen(right), times)
	for i, by := range f.by {
		out[i] = out[i].Mul(by)
	}
	return out, nil
}

// Left is the y with y A = c.
func (f *LU) Left(c []ratio.R) ([]ratio.R, error) {
	if f == nil || len(c) != f.Size() {
		return nil, api.ErrShape
	}
	left := make([]ratio.R, 0, len(c))
	for i, r := range c {
		left = append(left, r.Mul(f.by[i]))
	}
	weights, times := scaled(left)
	totals := make([]whole.Z, len(c))
	for i, row := range f.undo {
		for j, z := range row {
			totals[j] = totals[j].Add(z.Mul(weights[i]))
		}
	}
	return f.parts(totals, times), nil
}

// Replace is another one, of the table that has a as its column col.
func (f *LU) Replace(col int, a []ratio.R) (*LU, error) {
	if f == nil || col < 0 || col >= f.Size() || len(a) != f.Size() {
		return nil, api.ErrShape
	}
	next, by := scaled(a)
	seen := f.seen(next)
	if seen[col].Sign() == 0 {
		return nil, api.ErrSingular
	}
	return f.with(col, seen, by), nil
}

// unit is the table with 1 in the main diagonal and 0 elsewhere.
func unit(size int) *LU {
	f := &LU{undo: table[whole.Z](size, size), by: make([]ratio.R, size), det: whole.Of(1)}
	for i := range size {
		f.undo[i] = f.undo[i][:size]
		f.undo[i][i] = whole.Of(1)
		f.by[i] = ratio.Int(1)
	}
	return f
}

// swap lets two columns change places, one of them with its sign turned, so that det stays; seen, which is 0 at a, changes with them. Only Factor may, of columns of unit that go anyway.
func (f *LU) swap(seen []whole.Z, a, b int) {
	if a == b {
		return
	}
	turned := make([]whole.Z, 0, len(seen))
	for _, z := range f.undo[a] {
		turned = append(turned, z.Neg())
	}
	f.undo[a], f.undo[b] = f.undo[b], turned
	seen[a], seen[b] = seen[b], seen[a]
}

// seen is undo times the column: by det it is how the columns make it.
func (f *LU) seen(column []whole.Z) []whole.Z {
	out := make([]whole.Z, 0, len(column))
	for _, row := range f.undo {
		out = append(out, sum(row, column))
	}
	return out
}

// with is f with another column at col: seen is what f sees of it, not 0 at col, which is the new det.
func (f *LU) with(col int, seen []whole.Z, by ratio.R) *LU {
	g := &LU{undo: table[whole.Z](f.Size(), f.Size()), by: slices.Clone(f.by), det: seen[col]}
	g.by[col] = by
	for i, row := range f.undo {
		if i == col {
			g.undo[i] = append(g.undo[i], row...)
			continue
		}
		g.undo[i] = crossed(g.undo[i], row, f.undo[col], seen[col], seen[i], f.det)
	}
	return g
}

// parts is each of made by det and by times: what it was made of had been taken times that.
func (f *LU) parts(made []whole.Z, times ratio.R) []ratio.R {
	below, _ := ratio.Of(f.det, whole.Of(1))
	below = below.Mul(times)
	out := make([]ratio.R, 0, len(made))
	for _, z := range made {
		out = append(out, parted(z, below))
	}
	return out
}
