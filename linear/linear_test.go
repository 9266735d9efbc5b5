package linear

import (
	"errors"
	"strconv"
	"strings"
	"testing"

	"optima/api"
	"optima/ratio"
)

func number(t *testing.T, text string) ratio.R {
	t.Helper()
	r, err := ratio.Read(text)
	if err != nil {
		t.Fatalf("%q: %v", text, err)
	}
	return r
}

func point(t *testing.T, texts ...string) []ratio.R {
	t.Helper()
	var out []ratio.R
	for _, text := range texts {
		out = append(out, number(t, text))
	}
	return out
}

// shown is all that a problem says, in one text.
func shown(p *Problem) string {
	bound := func(b Bound) string {
		if !b.Has {
			return "-"
		}
		return b.At.Text()
	}
	var out strings.Builder
	out.WriteString("least ")
	if p.Max {
		out.Reset()
		out.WriteString("most ")
	}
	out.WriteString(p.Shift.Text())
	for _, c := range p.Cols {
		out.WriteString("; " + c.Name + " (" + bound(c.Low) + ", " + bound(c.High) + ") " + c.Cost.Text())
		if c.Whole {
			out.WriteString(" whole")
		}
	}
	for _, r := range p.Rows {
		out.WriteString("; " + r.Name + ":")
		for _, term := range r.Terms {
			out.WriteString(" " + term.By.Text() + "*" + strconv.Itoa(term.Col))
		}
		out.WriteString(" (" + bound(r.Low) + ", " + bound(r.High) + ")")
	}
	return out.String()
}

// sample has two columns, the first one whole, and three rows.
func sample(t *testing.T) *Problem {
	t.Helper()
	at := func(text string) Bound { return Bound{Has: true, At: number(t, text)} }
	return &Problem{
		Max:   true,
		Shift: number(t, "7"),
		Cols: []Col{
			{Name: "x", Whole: true, Low: at("-1/2"), High: at("4"), Cost: number(t, "3")},
			{Name: "y", Cost: number(t, "5/2")},
		},
		Rows: []Row{
			{Name: "x", Terms: []Term{{0, number(t, "1")}, {1, number(t, "2")}}, High: at("6")},
			{Name: "low", Terms: []Term{{1, number(t, "-1/3")}}, Low: at("-1")},
			{Name: "none"},
		},
	}
}

const sampleShown = "most 7; x (-1/2, 4) 3 whole; y (-, -) 5/2; x: 1*0 2*1 (-, 6); low: -1/3*1 (-1, -); none: (-, -)"

func TestValid(t *testing.T) {
	for _, c := range []struct {
		what string
		bend func(p *Problem)
		want error
	}{
		{"as it is", func(p *Problem) {}, nil},
		{"nothing", func(p *Problem) { *p = Problem{} }, nil},
		{"rows without columns", func(p *Problem) { p.Cols = nil; p.Rows = p.Rows[2:] }, nil},
		{"crossed bounds", func(p *Problem) {
			p.Cols[0].Low = Bound{Has: true, At: number(t, "5")}
			p.Rows[0].Low = Bound{Has: true, At: number(t, "7")}
		}, nil},
		{"a name that is no word", func(p *Problem) { p.Cols[0].Name = " \x00" }, nil},
		{"most columns", func(p *Problem) { moreColumns(p, api.MaxCols) }, nil},
		{"one column more", func(p *Problem) { moreColumns(p, api.MaxCols+1) }, api.ErrBound},
		{"most rows", func(p *Problem) { moreRows(p, api.MaxRows) }, nil},
		{"one row more", func(p *Problem) { moreRows(p, api.MaxRows+1) }, api.ErrBound},
		{"two columns of one name", func(p *Problem) { p.Cols[1].Name = "x" }, api.ErrName},
		{"two rows of one name", func(p *Problem) { p.Rows[2].Name = "x" }, api.ErrName},
		{"a column without a name", func(p *Problem) { p.Cols[1].Name = "" }, api.ErrName},
		{"a row without a name", func(p *Problem) { p.Rows[1].Name = "" }, api.ErrName},
		{"a column twice", func(p *Problem) { p.Rows[0].Terms[1].Col = 0 }, api.ErrShape},
		{"columns that descend", func(p *Problem) { p.Rows[0].Terms[0].Col, p.Rows[0].Terms[1].Col = 1, 0 }, api.ErrShape},
		{"a column too far", func(p *Problem) { p.Rows[0].Terms[1].Col = 2 }, api.ErrShape},
		{"a column below 0", func(p *Problem) { p.Rows[1].Terms[0].Col = -1 }, api.ErrShape},
		{"the number 0", func(p *Problem) { p.Rows[1].Terms[0].By = ratio.R{} }, api.ErrShape},
		{"columns that are gone", func(p *Problem) { p.Cols = nil }, api.ErrShape},
		{"bound ahead of name", func(p *Problem) { moreRows(p, api.MaxRows+1); p.Cols[1].Name = "x" }, api.ErrBound},
		{"bound ahead of shape", func(p *Problem) { moreColumns(p, api.MaxCols+1); p.Rows[1].Terms[0].Col = -1 }, api.ErrBound},
		{"name ahead of shape", func(p *Problem) { p.Rows[0].Terms[1].Col = 0; p.Rows[2].Name = "" }, api.ErrName},
	} {
		p := sample(t)
		c.bend(p)
		if err := Valid(p); !errors.Is(err, c.want) {
			t.Errorf("%s: %v, want %v", c.what, err, c.want)
		}
		x := make([]ratio.R, len(p.Cols)+1) // no point: Valid's error comes first
		wanted := c.want
		if wanted == nil {
			wanted = api.ErrShape
		}
		value, err := Value(p, x)
		if !errors.Is(err, wanted) || value.Sign() != 0 {
			t.Errorf("%s: Value %v, want %v", c.what, err, wanted)
		}
		ok, err := Holds(p, x, true)
		if !errors.Is(err, wanted) || ok {
			t.Errorf("%s: Holds %v, want %v", c.what, err, wanted)
		}
	}
	if err := Valid(nil); !errors.Is(err, api.ErrShape) {
		t.Errorf("nil: %v", err)
	}
}

func moreColumns(p *Problem, count int) {
	for len(p.Cols) < count {
		p.Cols = append(p.Cols, Col{Name: "c" + strconv.Itoa(len(p.Cols))})
	}
}

func moreRows(p *Problem, count int) {
	for len(p.Rows) < count {
		p.Rows = append(p.Rows, Row{Name: "r" + strconv.Itoa(len(p.Rows))})
	}
}

func TestTwin(t *testing.T) {
	p := sample(t)
	q := Twin(p)
	if shown(q) != sampleShown {
		t.Errorf("the twin is %s", shown(q))
	}
	q.Max, q.Shift = false, ratio.R{}
	for i := range q.Cols {
		q.Cols[i] = Col{}
	}
	for i := range q.Rows {
		for k := range q.Rows[i].Terms {
			q.Rows[i].Terms[k] = Term{}
		}
		q.Rows[i] = Row{}
	}
	if shown(p) != sampleShown {
		t.Errorf("what was written into the twin shows: %s", shown(p))
	}
	q = Twin(p)
	moreColumns(q, 3)
	q.Rows[0].Terms = append(q.Rows[0].Terms, Term{2, ratio.Int(1)})
	if other := Twin(p); shown(p) != sampleShown || shown(other) != sampleShown {
		t.Errorf("what grew in the twin shows: %s, %s", shown(p), shown(other))
	}
	if Twin(nil) != nil || shown(Twin(&Problem{})) != "least 0" {
		t.Error("the twin of nothing")
	}
	odd := sample(t) // not valid, and yet no panic
	odd.Rows[0].Terms[0].Col = 99
	if shown(Twin(odd)) != shown(odd) {
		t.Error("the twin of one that is not valid")
	}
}
