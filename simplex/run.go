package simplex

import (
	"slices"

	"optima/api"
	"optima/linear"
	"optima/ratio"
	"optima/witness"
)

// Run is a problem under way: its bounds may change and rows may come, and each look for the best sets out from where the one ahead ended.
type Run struct{ t *table }

// Start is a problem as Solve sets out with it.
func Start(p *linear.Problem) (*Run, error) {
	if err := linear.Valid(p); err != nil {
		return nil, err
	}
	t := newTable(linear.Twin(p))
	t.tell()
	return &Run{t}, nil
}

// Claim is as Solve's, of the problem as it is now.
func (r *Run) Claim() witness.Claim { return r.t.claim() }

// Where is the basis.
func (r *Run) Where() []int { return slices.Clone(r.t.where) }

// By is, of a Basic column, the numbers of all columns by which it is made of the others; of another one nothing.
func (r *Run) By(col int) []ratio.R {
	i := slices.Index(r.t.basic, col)
	if i < 0 {
		return nil
	}
	return r.t.spread(r.t.lines[i])
}

// Toll is what it costs at least, for each 1, that a Basic column grows (way above 0) or shrinks (below) from a best point. None: it can't, or it is not Basic.
func (r *Run) Toll(col, way int) linear.Bound {
	t := r.t
	i := slices.Index(t.basic, col)
	if i < 0 || way == 0 {
		return linear.Bound{}
	}
	k := t.helper(i, way, false)
	if k < 0 {
		return linear.Bound{}
	}
	toll, _ := ratio.Of(size(t.last().num[k]).Mul(t.lines[i].over), size(t.lines[i].num[k]).Mul(t.last().over))
	return linear.Bound{Has: true, At: toll}
}

// Between gives a column of the problem other bounds; it stays at the side where it stands, if it can. ErrShape: there is no such column.
func (r *Run) Between(col int, low, high linear.Bound) error {
	t := r.t
	if col < 0 || col >= len(t.p.Cols) {
		return api.ErrShape
	}
	t.low[col], t.high[col] = low, high
	if t.where[col] == api.Basic {
		return nil
	}
	switch {
	case t.bound(col, t.where[col]).Has:
	case low.Has:
		t.where[col] = api.Low
	case high.Has:
		t.where[col] = api.High
	default:
		t.where[col] = api.Loose
	}
	t.move(slices.Index(t.apart, col), t.bound(col, t.where[col]).At.Sub(t.x[col]))
	return nil
}

// Add gives the problem one more row, behind the others; its sum is Basic. The error is what Valid tells of the problem with it.
func (r *Run) Add(row linear.Row) error {
	t := r.t
	more := *t.p
	row.Terms = slices.Clone(row.Terms)
	more.Rows = append(slices.Clip(more.Rows), row)
	if err := linear.Valid(&more); err != nil {
		return err
	}
	t.p = &more
	t.lines = append(t.lines, lineOf(t.byOthers(row.Terms)))
	t.basic = append(t.basic, len(t.where))
	t.x = append(t.x, linear.Sum(row.Terms, t.x))
	t.add(row.Low, row.High, api.Basic)
	t.patience = len(t.where)
	return nil
}

// byOthers is of each place how many times its column counts in terms, where Basic columns are told by the others.
func (t *table) byOthers(terms []linear.Term) []ratio.R {
	out := make([]ratio.R, len(t.apart))
	for _, term := range terms {
		if k := slices.Index(t.apart, term.Col); k >= 0 {
			out[k] = out[k].Add(term.By)
			continue
		}
		l := t.lines[slices.Index(t.basic, term.Col)]
		for k, z := range l.num {
			if z.Sign() != 0 {
				out[k] = out[k].Add(term.By.Mul(l.at(k)))
			}
		}
	}
	return out
}

// Twin is the same in new memory.
func (r *Run) Twin() *Run {
	t := *r.t
	t.low, t.high = slices.Clone(t.low), slices.Clone(t.high)
	t.where, t.x = slices.Clone(t.where), slices.Clone(t.x)
	t.basic, t.apart = slices.Clone(t.basic), slices.Clone(t.apart)
	t.lines, t.costs = twins(t.lines), twins(t.costs)
	return &Run{&t}
}

func twins(lines []line) []line {
	out := slices.Clone(lines)
	for i, l := range out {
		out[i].num = slices.Clone(l.num)
	}
	return out
}
