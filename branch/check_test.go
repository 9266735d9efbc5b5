package branch

import (
	"errors"
	"slices"
	"strconv"
	"strings"
	"testing"

	"optima/api"
	"optima/linear"
	"optima/ratio"
	"optima/tongue"
)

func problem(t *testing.T, text string) *linear.Problem {
	t.Helper()
	n, err := tongue.Read(text)
	if err != nil {
		t.Fatalf("%s: %v", text, err)
	}
	p, err := linear.Expand(n)
	if err != nil {
		t.Fatalf("%s: %v", text, err)
	}
	return p
}

func numbers(t *testing.T, words []string) []ratio.R {
	t.Helper()
	var out []ratio.R
	for _, word := range words {
		r, err := ratio.Read(word)
		if err != nil {
			t.Fatalf("%s: %v", word, err)
		}
		out = append(out, r)
	}
	return out
}

func texts(list []ratio.R) string {
	var out []string
	for _, r := range list {
		out = append(out, r.Text())
	}
	return strings.Join(out, " ")
}

// answer is read from its kind (best, none, a number), its value, and a point.
func answer(t *testing.T, text string) Answer {
	t.Helper()
	words := strings.Fields(text)
	kinds := map[string]int{"best": api.Best, "none": api.None, "endless": api.Endless}
	kind, ok := kinds[words[0]]
	if !ok {
		kind, _ = strconv.Atoi(words[0])
	}
	list := numbers(t, words[1:])
	return Answer{Kind: kind, Value: list[0], X: list[1:]}
}

// trail is read from lines with ; between: split, column, number; cut, none or bound, numbers of rows.
func trail(t *testing.T, text string) []Line {
	t.Helper()
	var out []Line
	for _, line := range strings.Split(text, ";") {
		words := strings.Fields(line)
		if len(words) == 0 {
			continue
		}
		kinds := map[string]int{"split": api.TrailSplit, "cut": api.TrailCut, "none": api.TrailNone, "bound": api.TrailBound}
		kind, ok := kinds[words[0]]
		if !ok {
			kind, _ = strconv.Atoi(words[0])
		}
		list := numbers(t, words[1:])
		if kind != api.TrailSplit {
			out = append(out, Line{Kind: kind, Y: list})
			continue
		}
		col, _ := strconv.Atoi(words[1])
		out = append(out, Line{Kind: kind, Col: col, At: list[1]})
	}
	return out
}

// told is a trail as it is read.
func told(list []Line) string {
	out := ""
	for _, line := range list {
		switch line.Kind {
		case api.TrailSplit:
			out += "split " + strconv.Itoa(line.Col) + " " + line.At.Text() + "; "
		case api.TrailCut, api.TrailNone, api.TrailBound:
			out += []string{"cut ", "none ", "bound "}[line.Kind-api.TrailCut] + texts(line.Y) + "; "
		default:
			out += "?; "
		}
	}
	return out
}

const (
	doc      = "var x integer >= 0 <= 3; var y integer >= 0 <= 3; maximize z: x + y; subject one: 2 * x + 2 * y <= 5;"
	odd      = "var x integer >= 0 <= 3; var y integer >= 0 <= 3; maximize z: x + y; subject one: 2 * x + 2 * y = 5;"
	least    = "var x integer >= 0 <= 9; minimize z: x; subject r: 2 * x >= 5;"
	alone    = "var x integer >= 0 <= 3; maximize z: x;"
	floor0   = "var x integer >= 0 <= 3; minimize z: x;"
	loose    = "var x integer >= 0 <= 1; var w; maximize z: x; subject r: x + w <= 1; subject s: x - w <= 1;"
	mixed    = "var x integer >= 0 <= 9; var w >= 0 <= 1; maximize z: x + w; subject r: 2 * x + w <= 5;"
	free     = "var x integer; var w >= 0 <= 1; maximize z: w;"
	named    = "var x integer >= 0 <= 3; maximize z: x; subject cut1: 2 * x <= 5; subject cut2: x >= 0; subject cut3: x >= 0; subject cut5: x >= 0;"
	bySplits = "split 0 0; split 1 2; bound 0; none -1; split 1 1; split 0 1; bound 0; cut 1/2; bound 0 1; none -1"
)

func TestCheck(t *testing.T) {
	for _, c := range []struct {
		text, answer, trail string
		want                bool
	}{
		// the document's example
		{doc, "best 2 1 1", "cut 1/2; bound 0 1", true},
		{doc, "best 2 2 0", "cut 1/2; bound 0 1", true},
		{doc, "best 2 2 0", "split 0 1; cut 1/2; bound 0 1; cut 1/2; bound 0 1", true},
		{doc, "best 2 1 1", bySplits, true},

		// of the two that a split makes the one below is the next one, then all that comes of it
		{doc, "best 2 1 1", "split 0 0; split 1 2; none -1; bound 0; split 1 1; split 0 1; bound 0; cut 1/2; bound 0 1; none -1", false},
		{doc, "best 2 1 1", "split 0 0; split 1 1; split 0 1; bound 0; cut 1/2; bound 0 1; none -1; split 1 2; bound 0; none -1", false},
		{doc, "best 2 1 1", "split 0 0; split 1 2; bound 0; none -1; split 1 1; split 0 1; cut 1/2; bound 0 1; none -1; bound 0", false},

		// a line less, a line more, none
		{doc, "best 2 1 1", "", false},
		{doc, "best 2 1 1", "cut 1/2", false},
		{doc, "best 2 1 1", "cut 1/2; bound 0 1; bound 0 1", false},
		{doc, "best 2 1 1", "cut 1/2; bound 0 1; none", false},
		{doc, "best 2 1 1", "cut 1/2; bound 0 1; split 0 1", false},
		{doc, "best 2 2 0", "split 0 1; cut 1/2; bound 0 1", false},
		{doc, "best 2 2 0", "split 0 1; cut 1/2; bound 0 1; cut 1/2", false},

		// what an answer must say
		{doc, "best 2", "cut 1/2; bound 0 1", false},
		{doc, "best 2 1", "cut 1/2; bound 0 1", false},
		{doc, "best 2 1 1 0", "cut 1/2; bound 0 1", false},
		{doc, "best 2 3/2 1/2", "cut 1/2; bound 0 1", false},
		{doc, "best 3 3 0", "cut 1/2; bound 0 1", false},
		{doc, "best 2 3 -1", "cut 1/2; bound 0 1", false},
		{doc, "best 3 1 1", "cut 1/2; bound 0 1", false},
		{doc, "best 5/2 1 1", "bound 1/2", false},
		{doc, "best 1 1 0", "cut 1/2; bound 0 1", false}, // there are better ones
		{doc, "endless 2 1 1", "cut 1/2; bound 0 1", false},
		{doc, "endless 0", "cut 1/2; bound 0 1", false},
		{doc, "0 2 1 1", "cut 1/2; bound 0 1", false},
		{doc, "4 2 1 1", "cut 1/2; bound 0 1", false},
		{mixed, "best 3 2 1", "cut 1/2; bound 0 1", true},
		{mixed, "best 5/2 2 1/2", "cut 1/2; bound 0 1", false},
		{odd, "none 0", "cut 1/2; cut -1/2 0; none 0 -1 -1", true},
		{odd, "none 0 1 1", "cut 1/2; cut -1/2 0; none 0 -1 -1", false},
		{odd, "none 2", "cut 1/2; cut -1/2 0; none 0 -1 -1", false},
		{odd, "best 0", "cut 1/2; cut -1/2 0; none 0 -1 -1", false},
		{odd, "best 2 1 1", "cut 1/2; cut -1/2 0; none 0 -1 -1", false},
		{"maximize z: 7;", "best 7", "bound", true},
		{"maximize z: 7;", "best 0", "bound", false},
		{"maximize z: 7;", "none 0", "none", false},
		{"subject r: 0 >= 1;", "none 0", "none 1", true},

		// splits
		{doc, "best 2 1 1", "split -1 1; cut 1/2; bound 0 1; cut 1/2; bound 0 1", false},
		{doc, "best 2 1 1", "split 2 1; cut 1/2; bound 0 1; cut 1/2; bound 0 1", false},
		{doc, "best 2 1 1", "split 99 1; cut 1/2; bound 0 1; cut 1/2; bound 0 1", false},
		{doc, "best 2 1 1", "split 0 3/2; cut 1/2; bound 0 1; cut 1/2; bound 0 1", false},
		{doc, "best 2 1 1", "split 1 -99; none; cut 1/2; bound 0 1", true},
		{mixed, "best 3 2 1", "split 1 0; cut 1/2; bound 0 1; cut 1/2; bound 0 1", false}, // not whole
		{mixed, "best 3 2 1", "split 0 2; bound 0; none -1", true},
		{mixed, "best 3 2 1", "split 0 2; none -1; bound 0", false},
		{mixed, "best 3 2 1", "split 0 1; bound 0; cut 1/2; bound 0 1", true},
		{alone, "best 3 3", "split 0 5; bound; none", true}, // bounds tighten
		{floor0, "best 0 0", "split 0 -5; none; bound", true},
		{alone, "best 3 3", "split 0 3; bound; none", true},
		{alone, "best 3 3", "split 0 2; bound; bound", true},
		{alone, "best 3 3", "split 0 2; bound; none", false},
		{alone, "best 2 2", "split 0 2; bound; bound", false},
		{floor0, "best 0 0", "split 0 0; bound; bound", true},
		{floor0, "best 0 0", "split 0 -1; none; bound", true},
		{floor0, "best 0 0", "split 0 -1; bound; bound", true}, // bounds that cross, as they stand
		{free, "best 1 0 1", "bound", true},
		{free, "best 1 -5 1", "split 0 7; bound; bound", true},
		{free, "best 1 -5 1", "split 0 7; split 0 9; bound; none; bound", true},
		{free, "best 1 -5 1", "split 0 7; split 0 9; none; bound; bound", false},
		{free, "best 1 -5 1", "split 0 7; split 0 6; bound; split 0 8; bound; none; bound", true},

		// cuts
		{doc, "best 2 1 1", "cut; bound 0 1", false},
		{doc, "best 2 1 1", "cut 1/2 0; bound 0 1", false},
		{doc, "best 2 1 1", "cut -1/2; bound 0 1", false}, // a bound that counts is not there
		{doc, "best 2 1 1", "cut 1/3; bound 0 1", false},
		{doc, "best 2 1 1", "cut 1/2; bound 1", false},
		{doc, "best 2 1 1", "cut 1/2; bound 0 1 0", false},
		{doc, "best 2 1 1", "cut 0; cut 1/2 0; bound 0 0 1", true},
		{doc, "best 2 1 1", "cut 0; cut 1/2; bound 0 0 1", false},
		{doc, "best 2 1 1", "cut 0; cut 1/2 0; bound 0 1 0", false}, // behind the others
		{odd, "none 0", "cut -1/2; cut 1/2 0; none 0 -1 -1", true},
		{odd, "none 0", "cut -1/2; cut 1/2; none 0 -1 -1", false},
		{least, "best 3 3", "cut -1/2; bound 0 -1", true},
		{least, "best 3 3", "cut 1/2; bound 0 -1", false},
		{mixed, "best 3 2 1", "split 0 1; bound 0; cut 1; bound 0 1", false},
		{named, "best 2 2", "cut 1/2 0 0 0; cut 0 0 0 0 0; cut 0 0 0 0 0 0; bound 0 0 0 0 1 0 0", true},

		// none
		{odd, "none 0", "none", false},
		{odd, "none 0", "none 1", false},
		{odd, "none 0", "none 1 1", false},
		{odd, "none 0", "cut 1/2; cut -1/2 0; none 0 -1", false},
		{odd, "none 0", "cut 1/2; cut -1/2 0; none 0 1 1", false},
		{"var x integer >= 2 <= 1;", "none 0", "none", true},
		{"var x integer >= 1 <= 1;", "none 0", "none", false},
		{"var x >= 0; subject r: 2 <= x <= 1;", "none 0", "none", true},
		{"var x >= 0; subject r: 2 <= x <= 1;", "none 0", "none 0", false},
		{"var x >= 0 <= 1; subject r: x >= 2;", "none 0", "none", false},
		{"var x >= 0 <= 1; subject r: x >= 2;", "none 0", "none 1", true},
		{"var x >= 0 <= 1; subject r: x >= 2;", "none 0", "none -1", false},
		{"var x integer >= 1/3 <= 2/3;", "none 0", "split 0 0; none; none", true},

		// bounds
		{alone, "best 3 3", "bound", true},
		{alone, "best 2 2", "bound", false},
		{floor0, "best 0 0", "bound", true},
		{floor0, "best 1 1", "bound", false},
		{odd, "none 0", "bound 0", false},
		{odd, "none 0", "cut 1/2; cut -1/2 0; bound 0 -1 -1", false},
		{least, "best 3 3", "bound 1/2", false}, // 5/2 is better
		{"var x >= 0; minimize z: x; subject r: 2 * x >= 5;", "best 5/2 5/2", "bound 1/2", true},
		{"var x >= 0; minimize z: x; subject r: 2 * x >= 5;", "best 3 3", "bound 1/2", false},
		{loose, "best 1 1 0", "bound 1/2 1/2", true},
		{loose, "best 1 1 0", "bound 1 0", false}, // no end
		{loose, "best 1 1 0", "bound 0 0", true},
		{loose, "best 1 1 0", "bound 1/2 1/2 0", false},
		{loose, "best 1 1 0", "bound", false},

		// no lines
		{alone, "best 3 3", "0", false},
		{alone, "best 3 3", "5", false},
		{alone, "best 3 3", "-1", false},
		{alone, "best 3 3", "bound; 7", false},
		{alone, "best 3 3", "7; bound", false},
	} {
		p := problem(t, c.text)
		yes, err := Check(p, answer(t, c.answer), trail(t, c.trail))
		if err != nil || yes != c.want {
			t.Errorf("%s: %s by %s: %v, %v", c.text, c.answer, c.trail, yes, err)
		}
		if want := plainCheck(p, answer(t, c.answer), trail(t, c.trail)); want != c.want {
			t.Errorf("%s: %s by %s: by the document's words it is %v", c.text, c.answer, c.trail, want)
		}
		// what a line's kind does not name does not matter
		odds := trail(t, c.trail)
		for i, line := range odds {
			if line.Kind == api.TrailSplit {
				odds[i].Y = numbers(t, []string{"1/2", "7"})
			} else {
				odds[i].Col, odds[i].At = -7, numbers(t, []string{"1/2"})[0]
			}
		}
		if yes, err := Check(p, answer(t, c.answer), odds); err != nil || yes != c.want {
			t.Errorf("%s: %s by %s, and more: %v, %v", c.text, c.answer, c.trail, yes, err)
		}
	}
}

// TestRoom: a cut needs room for its row.
func TestRoom(t *testing.T) {
	p := problem(t, doc)
	for len(p.Rows) < api.MaxRows-1 {
		p.Rows = append(p.Rows, linear.Row{Name: "r" + strconv.Itoa(len(p.Rows))})
	}
	a := answer(t, "best 2 1 1")
	by := func(rows int, at int, number string) []ratio.R {
		out := make([]ratio.R, rows)
		out[at] = numbers(t, []string{number})[0]
		return out
	}
	first, last := Line{Kind: api.TrailCut, Y: by(api.MaxRows-1, 0, "1/2")}, Line{Kind: api.TrailBound, Y: by(api.MaxRows, api.MaxRows-1, "1")}
	if yes, err := Check(p, a, []Line{first, last}); err != nil || !yes {
		t.Errorf("the last row that there is room for: %v, %v", yes, err)
	}
	more := Line{Kind: api.TrailCut, Y: by(api.MaxRows, 0, "1/2")}
	if yes, err := Check(p, a, []Line{first, more, {Kind: api.TrailBound, Y: by(api.MaxRows+1, api.MaxRows, "1")}}); err != nil || yes {
		t.Errorf("a row too many: %v, %v", yes, err)
	}
	// a split leaves room
	if yes, err := Check(p, a, []Line{{Kind: api.TrailSplit, At: ratio.Int(1)}, first, last, first, last}); err != nil || !yes {
		t.Errorf("one more row in each part: %v, %v", yes, err)
	}
	p.Rows = append(p.Rows, linear.Row{Name: "r" + strconv.Itoa(len(p.Rows))})
	if yes, err := Check(p, a, []Line{more, last}); err != nil || yes {
		t.Errorf("no room: %v, %v", yes, err)
	}
}

func TestFreeName(t *testing.T) {
	var rows []linear.Row
	for range 50 {
		name := freeName(rows)
		if name == "" || slices.ContainsFunc(rows, func(r linear.Row) bool { return r.Name == name }) {
			t.Fatalf("%s is there already", name)
		}
		rows = append(slices.Clone(rows), linear.Row{Name: name})
		slices.Reverse(rows)
	}
	if name := freeName([]linear.Row{{Name: "cut2"}, {Name: "cut4"}, {Name: "cut3"}}); name == "cut3" || name == "cut4" {
		t.Error(name)
	}
}

func TestWrongProblems(t *testing.T) {
	many, rows := &linear.Problem{}, &linear.Problem{}
	for i := range api.MaxCols + 1 {
		many.Cols = append(many.Cols, linear.Col{Name: "c" + strconv.Itoa(i), Whole: true})
	}
	for i := range api.MaxRows + 1 {
		rows.Rows = append(rows.Rows, linear.Row{Name: "r" + strconv.Itoa(i)})
	}
	col := linear.Col{Name: "x", Whole: true}
	for _, c := range []struct {
		p    *linear.Problem
		want error
	}{
		{nil, api.ErrShape},
		{many, api.ErrBound},
		{rows, api.ErrBound},
		{&linear.Problem{Cols: []linear.Col{col, col}}, api.ErrName},
		{&linear.Problem{Cols: []linear.Col{{Whole: true}}}, api.ErrName},
		{&linear.Problem{Rows: []linear.Row{{Name: "r"}, {Name: "r"}}}, api.ErrName},
		{&linear.Problem{Cols: []linear.Col{col}, Rows: []linear.Row{{Name: "r", Terms: []linear.Term{{Col: 1, By: ratio.Int(1)}}}}}, api.ErrShape},
		{&linear.Problem{Cols: []linear.Col{col}, Rows: []linear.Row{{Name: "r", Terms: []linear.Term{{}}}}}, api.ErrShape},
	} {
		if a, l, err := Solve(c.p); a.Kind != 0 || a.X != nil || a.Value.Sign() != 0 || l != nil || !errors.Is(err, c.want) {
			t.Errorf("Solve: %+v, %v, %v, want %v", a, l, err, c.want)
		}
		for _, a := range []Answer{{}, {Kind: api.None}, {Kind: api.Best}} {
			for _, l := range [][]Line{nil, {{}}, {{Kind: api.TrailNone}}} {
				if yes, err := Check(c.p, a, l); yes || !errors.Is(err, c.want) {
					t.Errorf("Check: %v, %v, want %v", yes, err, c.want)
				}
			}
		}
	}
}
