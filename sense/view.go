package sense

import (
	"optima/api"
	"optima/linear"
	"optima/ratio"
	"optima/simplex"
)

// view is a problem as it looks from a basis.
type view struct {
	p      *linear.Problem
	where  []int
	frame  *simplex.Frame
	lineOf map[int]int // of each Basic column the place of its numbers in the frame's By
}

func viewOf(p *linear.Problem, where []int) (*view, error) {
	frame, err := simplex.FrameOf(p, where)
	if err != nil {
		return nil, err
	}
	v := &view{p: p, where: where, frame: frame, lineOf: map[int]int{}}
	for line, col := range frame.Basic {
		v.lineOf[col] = line
	}
	return v, nil
}

// good is whether the basis is the best one.
func (v *view) good() bool {
	for col := range v.where {
		if !v.bounds(col).has(v.frame.X[col]) || !v.fair(col).has(v.frame.Cost[col]) {
			return false
		}
	}
	return true
}

// bounds is where a column, or a row's sum, may be.
func (v *view) bounds(col int) Range {
	if cols := len(v.p.Cols); col >= cols {
		row := v.p.Rows[col-cols]
		return Range{Low: row.Low, High: row.High}
	}
	return Range{Low: v.p.Cols[col].Low, High: v.p.Cols[col].High}
}

// fair is which reduced costs a column may have where it stands: those by which nothing is gained if it goes where its bounds let it go.
func (v *view) fair(col int) Range {
	nought := linear.Bound{Has: true}
	at := v.where[col]
	switch {
	case at == api.Basic, at == api.Loose:
		return Range{Low: nought, High: nought}
	case v.bounds(col).still():
		return Range{}
	case (at == api.Low) != v.p.Max:
		return Range{Low: nought}
	}
	return Range{High: nought}
}

// dearer is how much more a column may cost. What a Basic one costs is felt by all that it is made of; what another one costs by itself alone.
func (v *view) dearer(col int) Range {
	var out Range
	line, basic := v.lineOf[col]
	if !basic {
		out.keep(v.fair(col), v.frame.Cost[col], ratio.Int(1))
		return out
	}
	for other, by := range v.frame.By[line] {
		out.keep(v.fair(other), v.frame.Cost[other], by)
	}
	return out
}

// further is how much further up a column that is not Basic may stand.
func (v *view) further(col int) Range {
	var out Range
	for line, basic := range v.frame.Basic {
		out.keep(v.bounds(basic), v.frame.X[basic], v.frame.By[line][col])
	}
	return out
}
