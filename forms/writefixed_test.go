package forms

import (
	"strconv"
	"strings"
	"testing"

	"optima/api"
	"optima/linear"
	"optima/plain"
	"optima/ratio"
)

func specOf(p *linear.Problem) *api.Spec {
	spec := plain.Spec(p)
	return &spec
}

// inDecimals is the decimal of a number's text, or of less that number.
func inDecimals(text string, less bool) string {
	if text == "" {
		return ""
	}
	r, _ := ratio.Read(text)
	if less {
		r = r.Neg()
	}
	text = r.Decimal(10)
	if strings.Contains(text, ".") {
		text = strings.TrimRight(strings.TrimRight(text, "0"), ".")
	}
	return text
}

func difference(a, b string) string {
	x, _ := ratio.Read(a)
	y, _ := ratio.Read(b)
	return x.Sub(y).Text()
}

// TestWriteFixed: scattered problems, written and read.
func TestWriteFixed(t *testing.T) {
	s := scatter(5577006791947779410)
	for range 3000 {
		checkBack(t, WriteFixed, ReadFixed, made(t, s.spec(s.fixedName, s.fixedNumber)))
	}
}

// TestFixedShort: what need not stand does not.
func TestFixedShort(t *testing.T) {
	p := problem(t, "maximize 3 x + 10 y - 5 subject to one: 0 <= x + y <= 4 two: 200 x + y <= 0 three: -4 <= y <= 0 four: y = 9 bounds 0 <= x <= 1 y >= 0 generals x end")
	want := "OBJSENSE\n    MAX\nROWS\n N  0\n G  one\n L  two\n L  three\n E  four\nCOLUMNS\n" +
		"    x         two       200            0         3\n    x         one       1\n" +
		"    y         0         10             two       1\n    y         one       1              three     1\n    y         four      1\n" +
		"RHS\n    r         four      9              0         5\nRANGES\n    r         one       4              three     4\nBOUNDS\n BV b         x\nENDATA\n"
	if text := checkBack(t, WriteFixed, ReadFixed, p); text != want {
		t.Errorf("%s\nwant\n%s", text, want)
	}
}

func TestFixedNames(t *testing.T) {
	good := []string{"x", "12345678", "!", "~", "*", "a'", "RHS", "MARKER'", "\\", "0"}
	bad := []string{"123456789", "a b", " a", "a ", "'", "'a", "'MARKER'", "\x7f", "a\t", "\x80", "é", "a\n"}
	p := problem(t, "minimize x subject to one: x free bounds x free end")
	for _, name := range good {
		p.Cols[0].Name, p.Rows[0].Name = name, name
		checkBack(t, WriteFixed, ReadFixed, p)
	}
	for _, name := range bad {
		p.Cols[0].Name, p.Rows[0].Name = name, "one"
		checkPlain(t, name, WriteFixed, p, api.ErrName)
		p.Cols[0].Name, p.Rows[0].Name = "x", name
		checkPlain(t, name, WriteFixed, p, api.ErrName)
	}
}

// TestGoalName: whatever the rows are called, the goal has a name of its own.
func TestGoalName(t *testing.T) {
	p := problem(t, "minimize x + 1 subject to bounds x free end")
	for i := range api.MaxRows {
		p.Rows = append(p.Rows, linear.Row{Name: strconv.Itoa(i)})
	}
	checkBack(t, WriteFixed, ReadFixed, p)
}

// TestFixedNumbers: each number must have a decimal of 12 bytes, where it has to stand.
func TestFixedNumbers(t *testing.T) {
	good := []string{"999999999999", "-99999999999", "0.0000000001", "-0.000000001", "1234567890.1", "1/1024", "100000000000", "1/5", "-3/8"}
	bad := []string{"1000000000000", "-100000000000", "0.00000000001", "-0.0000000001", "12345678901.2", "1/3", "-1/7", "1/2048", "1e60", "1e-60", "1/6"}
	places := map[string]func(p *linear.Problem, r ratio.R){
		"cost":     func(p *linear.Problem, r ratio.R) { p.Cols[0].Cost = r },
		"term":     func(p *linear.Problem, r ratio.R) { p.Rows[0].Terms[0].By = r },
		"shift":    func(p *linear.Problem, r ratio.R) { p.Shift = r.Neg() }, // less it is what stands there
		"low":      func(p *linear.Problem, r ratio.R) { p.Cols[0].Low = bound(r) },
		"high":     func(p *linear.Problem, r ratio.R) { p.Cols[0].High = bound(r) },
		"both":     func(p *linear.Problem, r ratio.R) { p.Cols[0].Low, p.Cols[0].High = bound(r), bound(r) },
		"row low":  func(p *linear.Problem, r ratio.R) { p.Rows[0].Low = bound(r) },
		"row high": func(p *linear.Problem, r ratio.R) { p.Rows[0].High = bound(r) },
		"row both": func(p *linear.Problem, r ratio.R) { p.Rows[0].Low, p.Rows[0].High = bound(r), bound(r) },
	}
	for what, put := range places {
		for _, text := range good {
			p := problem(t, "minimize x subject to one: x free bounds x free end")
			put(p, number(t, text))
			checkBack(t, WriteFixed, ReadFixed, p)
		}
		for _, text := range bad {
			p := problem(t, "minimize x subject to one: x free bounds x free end")
			put(p, number(t, text))
			checkPlain(t, what+" "+text, WriteFixed, p, api.ErrNumber)
		}
	}
}

// TestFixedRanges: of a row with two bounds the one that has a decimal may be the side; the range must have one.
func TestFixedRanges(t *testing.T) {
	for _, c := range []struct {
		low, high string
		good      bool
	}{
		{"1", "2", true},
		{"-0.0000000001", "1", true},
		{"1", "1000000000000", true},
		{"-99999999999", "0", true},
		{"-100000000000", "0", true},
		{"0", "999999999999", true},
		{"0", "1000000000000", false},
		{"0", "1/3", false},
		{"1/3", "4/3", false},
		{"1/3", "1", false},
		{"-0.0000000001", "2000000000000", false},
		{"-500000000000", "500000000000", false},
		{"-500000000000", "-100000000000", false},
	} {
		p := problem(t, "minimize x subject to one: x free bounds x free end")
		p.Rows[0].Low, p.Rows[0].High = bound(number(t, c.low)), bound(number(t, c.high))
		if c.good {
			checkBack(t, WriteFixed, ReadFixed, p)
		} else {
			checkPlain(t, c.low+" "+c.high, WriteFixed, p, api.ErrNumber)
		}
	}
}

// dense is a problem of so many columns and rows, with the number in all of them.
func dense(cols, rows int, by ratio.R) *linear.Problem {
	p := &linear.Problem{}
	for i := range cols {
		p.Cols = append(p.Cols, linear.Col{Name: "c" + strconv.Itoa(i), Low: bound(ratio.R{})})
	}
	for i := range rows {
		row := linear.Row{Name: "r" + strconv.Itoa(i)}
		for j := range cols {
			row.Terms = append(row.Terms, linear.Term{Col: j, By: by})
		}
		p.Rows = append(p.Rows, row)
	}
	return p
}

// TestFixedErrorsInOrder: names are looked at ahead of rows' bounds, those ahead of numbers, and these ahead of how long the text is.
func TestFixedErrorsInOrder(t *testing.T) {
	checkBack(t, WriteFixed, ReadFixed, dense(18, 40, ratio.Int(2)))
	checkBack(t, WriteFixed, ReadFixed, dense(api.MaxCols, 3, ratio.Int(2)))
	p := dense(19, 40, ratio.Int(2))
	for i := range 15 {
		p.Rows = append(p.Rows, linear.Row{Name: "s" + strconv.Itoa(i)})
	}
	lengthen(t, p, api.MaxFixed, api.MaxText, func() int { return len(checkBack(t, WriteFixed, ReadFixed, p)) })
	p.Rows[len(p.Rows)-1].Name += "_"
	checkPlain(t, "one more", WriteFixed, p, api.ErrBound)
	p = dense(30, 40, ratio.Int(2))
	checkPlain(t, "long", WriteFixed, p, api.ErrBound)
	p.Cols[29].High = bound(number(t, "1/3"))
	checkPlain(t, "a number", WriteFixed, p, api.ErrNumber)
	p.Rows[39].Low, p.Rows[39].High = bound(number(t, "1/3")), bound(number(t, "1/4"))
	checkPlain(t, "crossing", WriteFixed, p, api.ErrShape)
	p.Rows[39].Name = "'"
	checkPlain(t, "a name", WriteFixed, p, api.ErrName)
}

// TestColumnsCross: columns' bounds may cross, rows' bounds may not.
func TestColumnsCross(t *testing.T) {
	p := problem(t, "minimize x subject to one: x free bounds 3 <= x <= 2 end")
	checkBack(t, WriteFixed, ReadFixed, p)
	p = problem(t, "minimize x subject to one: 3 <= x <= 2.9 bounds x free end")
	checkPlain(t, "crossing", WriteFixed, p, api.ErrShape)
}
