package forms

import (
	"strings"
	"testing"

	"optima/api"
	"optima/linear"
	"optima/ratio"
)

func (s *scatter) lineName(used map[string]int) string {
	return s.name(used, 8, "abXYe_[],'!", "abXYe_[],'!09.")
}

func (s *scatter) lineNumber() string {
	return s.among("0", "1", "-1", "2", "-30", "999", "0.5", "-1.25", "0.001", "1/3", "-22/7", "1e40", "1e-40", "123456789123456789.5")
}

// TestWriteLines: scattered problems, written and read.
func TestWriteLines(t *testing.T) {
	s := scatter(3037000500976543210)
	for range 3000 {
		checkBack(t, WriteLines, ReadLines, made(t, s.spec(s.lineName, s.lineNumber)))
	}
	p := problem(t, baseLines)
	want := "maximize 3 x + 1/2 y + 7\nsubject to\none: 2 <= x + 2 y <= 6\ntwo: - x = 1.5\nthree: nought free\nbounds\n0 <= x <= 4\ny free\nz >= -2\ngenerals x\nend\n"
	if text := checkBack(t, WriteLines, ReadLines, p); strings.ReplaceAll(text, "3/2", "1.5") != want {
		t.Errorf("%s\nwant\n%s", text, want)
	}
	if text := checkBack(t, WriteLines, ReadLines, &linear.Problem{}); text != "minimize nought\nsubject to\nbounds\nend\n" {
		t.Error(text)
	}
	p.Rows[0].Low, p.Rows[0].High = p.Rows[0].High, p.Rows[0].Low
	checkBack(t, WriteLines, ReadLines, p)
}

// TestTight: without the blanks that need not stand a text says the same.
func TestTight(t *testing.T) {
	s := scatter(777777777777)
	for range 3000 {
		p := made(t, s.spec(s.lineName, s.lineNumber))
		w := &lineWriter{}
		w.whole(p)
		text := w.tight.String()
		q, err := ReadLines(text)
		if err != nil || shown(q) != shown(p) || strings.Contains(text, "\n") {
			t.Fatalf("%s: %s\n%s", shown(p), faultText(err), text)
		}
	}
	w := &lineWriter{}
	w.whole(problem(t, baseLines))
	if text := w.tight.String(); text != "maximize 3x+1/2y+7subject to one:2<=x+2y<=6two:-x=3/2three:nought free bounds 0<=x<=4y free z>=-2generals x end" {
		t.Error(text)
	}
}

// lengthen makes rows' names longer, of so many bytes at most, until a text of the problem is of so many bytes.
func lengthen(t *testing.T, p *linear.Problem, most, want int, length func() int) {
	t.Helper()
	missing := want - length()
	for i := range p.Rows {
		more := min(missing, most-len(p.Rows[i].Name))
		p.Rows[i].Name += strings.Repeat("_", more)
		missing -= more
	}
	if missing != 0 || length() != want {
		t.Fatal(missing, length())
	}
}

// TestLinesJust: a text of just so many bytes as may be there, and one of one more; with its blanks, and without them.
func TestLinesJust(t *testing.T) {
	written := func(p *linear.Problem) *lineWriter {
		w := &lineWriter{}
		_ = caught(func() { w.whole(p) })
		return w
	}
	p := dense(60, 50, ratio.Int(1))
	wide := func() int { return written(p).wide.Len() }
	lengthen(t, p, api.MaxWord, api.MaxText, wide)
	if text := checkBack(t, WriteLines, ReadLines, p); len(text) != api.MaxText {
		t.Error(len(text))
	}
	lengthen(t, p, api.MaxWord, api.MaxText+1, wide)
	if text := checkBack(t, WriteLines, ReadLines, p); len(text) != written(p).tight.Len() {
		t.Error(len(text))
	}
	p = dense(86, 36, ratio.Int(11))
	tight := func() int { return written(p).tight.Len() }
	lengthen(t, p, api.MaxWord, api.MaxText, tight)
	if text := checkBack(t, WriteLines, ReadLines, p); len(text) != api.MaxText {
		t.Error(len(text))
	}
	lengthen(t, p, api.MaxWord, api.MaxText+1, tight)
	checkPlain(t, "one more", WriteLines, p, api.ErrBound)
}

func TestLineNames(t *testing.T) {
	p := problem(t, "minimize x subject to one: x free bounds x free end")
	good := []string{"x", "_", "x.", "[1,2]", "'a'", "!", "To", strings.Repeat("w", api.MaxWord)}
	bad := []string{"1", ".x", "a b", "a+b", "to", "free", "nought", "end", "bounds", "generals", "subject", "minimize", "maximize", "x\\", "é", "a\n", strings.Repeat("w", api.MaxWord+1)}
	for _, name := range good {
		p.Cols[0].Name, p.Rows[0].Name = name, name
		checkBack(t, WriteLines, ReadLines, p)
	}
	for _, name := range bad {
		p.Cols[0].Name, p.Rows[0].Name = name, "one"
		checkPlain(t, name, WriteLines, p, api.ErrName)
		p.Cols[0].Name, p.Rows[0].Name = "x", name
		checkPlain(t, name, WriteLines, p, api.ErrName)
	}
}

// TestLineNumbers: a number is told by a fraction or a decimal that can be read; else the text would be too long.
func TestLineNumbers(t *testing.T) {
	ones := strings.Repeat("1", api.MaxDigits)
	decimal := number(t, ones+"."+ones)
	quo := func(a, b ratio.R) ratio.R {
		q, _ := a.Quo(b)
		return q
	}
	ten := number(t, "1e60")
	big := ten.Mul(ten).Mul(ten).Mul(ten).Mul(ten) // 301 digits
	for _, c := range []struct {
		what string
		r    ratio.R
		good bool
	}{
		{"whole", number(t, ones), true},
		{"below 0", number(t, "-"+ones), true},
		{"fraction", number(t, ones+"/1"+strings.Repeat("0", api.MaxDigits-1)), true},
		{"thirds", number(t, "1"+strings.Repeat("0", api.MaxDigits-1)+"/3"), true},
		{"decimal", decimal, true},
		{"decimal below 0", decimal.Neg(), true},
		{"small", quo(ratio.Int(1), big), true},
		{"too great", big, false},
		{"too great below 0", big.Neg(), false},
		{"great, with a half", big.Add(number(t, "1/2")), false},
		{"too small", quo(number(t, "0.1"), big), false},
		{"small thirds", quo(number(t, "1/3"), big), false},
		{"long thirds", decimal.Add(number(t, "1/3")), false},
		{"halves", quo(ratio.Int(1), number(t, "1"+strings.Repeat("0", 99)).Mul(number(t, "1024"))), true},
	} {
		for _, place := range []func(p *linear.Problem){
			func(p *linear.Problem) { p.Shift = c.r },
			func(p *linear.Problem) { p.Cols[0].Cost = c.r },
			func(p *linear.Problem) { p.Cols[0].Low = bound(c.r) },
			func(p *linear.Problem) { p.Cols[0].High = bound(c.r) },
			func(p *linear.Problem) { p.Rows[0].Terms[0].By = c.r },
			func(p *linear.Problem) { p.Rows[0].Low = bound(c.r) },
			func(p *linear.Problem) { p.Rows[0].High = bound(c.r) },
			func(p *linear.Problem) { p.Rows[0].Low, p.Rows[0].High = bound(c.r), bound(ratio.Int(1)) },
		} {
			p := problem(t, "minimize x subject to one: x free bounds x free end")
			if place(p); c.good {
				checkBack(t, WriteLines, ReadLines, p)
			} else {
				checkPlain(t, c.what, WriteLines, p, api.ErrBound)
			}
		}
	}
	p := problem(t, "minimize x subject to one: x free bounds x free end")
	p.Shift, p.Rows[0].Name = big, "a b"
	checkPlain(t, "a name ahead", WriteLines, p, api.ErrName)
}

// TestLinesLength: a text is told wherever one of half of what may be there is.
func TestLinesLength(t *testing.T) {
	p := dense(100, 48, ratio.Int(1))
	for i := range p.Cols { // names of one and two bytes
		p.Cols[i].Name = string("abcdefghijklmnopqrstuvwxyzABCDEFGHIJKLMNOPQRSTUVWXYZ"[i%52])
		if i >= 52 {
			p.Cols[i].Name += "_"
		}
	}
	if text := checkBack(t, WriteLines, ReadLines, p); len(text) < api.MaxText/2 {
		t.Error(len(text))
	}
	checkPlain(t, "long", WriteLines, dense(api.MaxCols, api.MaxRows, ratio.Int(1)), api.ErrBound)
	// the fraction is far shorter than the decimal, and the decimal than the fraction
	for _, r := range []ratio.R{number(t, "1/1267650600228229401496703205376"), number(t, "0."+strings.Repeat("7", 90))} {
		q := dense(100, 1, r)
		if text := checkBack(t, WriteLines, ReadLines, q); len(text) > 110*100 {
			t.Error(len(text))
		}
	}
}
