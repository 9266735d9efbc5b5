package forms

import (
	"strings"

	"optima/api"
	"optima/linear"
	"optima/ratio"
	"optima/whole"
)

// lineWriter is a text of the line format as far as it is written, with its blanks and lines, and without all that need not stand: with them a text may be too long that is not without.
type lineWriter struct {
	wide, tight strings.Builder
	begun       bool   // whether a word stands in this line of the wide text
	last        string // the word ahead
}

func linesText(p *linear.Problem) string {
	for _, col := range p.Cols {
		need(isLineName(col.Name), api.ErrName)
	}
	for _, row := range p.Rows {
		need(isLineName(row.Name), api.ErrName)
	}
	w := &lineWriter{}
	w.whole(p)
	if w.wide.Len() <= api.MaxText {
		return w.wide.String()
	}
	return w.tight.String()
}

func (w *lineWriter) whole(p *linear.Problem) {
	w.goal(p)
	w.line("subject", "to")
	for _, row := range p.Rows {
		w.put(row.Name, ":")
		w.between(row.Low, row.High, func() { w.sum(p.Cols, row.Terms, ratio.R{}) })
	}
	w.line("bounds")
	for _, col := range p.Cols {
		w.between(col.Low, col.High, func() { w.put(col.Name) })
	}
	w.generals(p.Cols)
	w.line("end")
}

// put writes words.
func (w *lineWriter) put(words ...string) {
	for _, word := range words {
		if w.begun && word != ":" {
			w.wide.WriteByte(' ')
		}
		w.wide.WriteString(word)
		if runsOn(w.last, word) {
			w.tight.WriteByte(' ')
		}
		w.tight.WriteString(word)
		w.begun, w.last = true, word
	}
	need(w.tight.Len() <= api.MaxText, api.ErrBound)
}

// line writes words, and ends the line.
func (w *lineWriter) line(words ...string) {
	w.put(words...)
	w.wide.WriteByte('\n')
	w.begun = false
}

// runsOn is whether a word would be read as one with the word ahead, if nothing parted them.
func runsOn(ahead, word string) bool {
	if ahead == "" || !isNameByte(word[0]) {
		return false
	}
	if isNameByte(ahead[0]) && !startsNumber(ahead[0]) {
		return true
	}
	return startsNumber(ahead[len(ahead)-1]) && startsNumber(word[0])
}

func (w *lineWriter) goal(p *linear.Problem) {
	way := "minimize"
	if p.Max {
		way = "maximize"
	}
	var terms []linear.Term
	for i, col := range p.Cols {
		if col.Cost.Sign() != 0 {
			terms = append(terms, linear.Term{Col: i, By: col.Cost})
		}
	}
	w.put(way)
	w.sum(p.Cols, terms, p.Shift)
	w.line()
}

// sum writes terms and a number, if that is not 0.
func (w *lineWriter) sum(cols []linear.Col, terms []linear.Term, number ratio.R) {
	if len(terms) == 0 && number.Sign() == 0 {
		w.put("nought")
		return
	}
	for i, term := range terms {
		size := w.sign(term.By, i == 0)
		if size.Cmp(ratio.Int(1)) != 0 {
			w.put(lineNumber(size))
		}
		w.put(cols[term.Col].Name)
	}
	if number.Sign() != 0 {
		w.put(lineNumber(w.sign(number, len(terms) == 0)))
	}
}

// sign writes what stands ahead of a number's size, and is that size.
func (w *lineWriter) sign(number ratio.R, first bool) ratio.R {
	switch {
	case number.Sign() < 0:
		w.put("-")
		return number.Neg()
	case !first:
		w.put("+")
	}
	return number
}

// between writes what thing writes, with its bounds, as a line.
func (w *lineWriter) between(low, high linear.Bound, thing func()) {
	switch {
	case low.Has && high.Has && low.At.Cmp(high.At) == 0:
		thing()
		w.line("=", lineNumber(low.At))
	case low.Has && high.Has:
		w.put(lineNumber(low.At), "<=")
		thing()
		w.line("<=", lineNumber(high.At))
	case low.Has:
		thing()
		w.line(">=", lineNumber(low.At))
	case high.Has:
		thing()
		w.line("<=", lineNumber(high.At))
	default:
		thing()
		w.line("free")
	}
}

func (w *lineWriter) generals(cols []linear.Col) {
	words := []string{"generals"}
	for _, col := range cols {
		if col.Whole {
			words = append(words, col.Name)
		}
	}
	if len(words) > 1 {
		w.line(words...)
	}
}

// lineNumber is a number's shortest text, as a fraction or as a decimal: either may have more digits than can be read where the other has not.
func lineNumber(r ratio.R) string {
	text, ok := decimal(r, api.MaxDigits)
	ahead, _, _ := strings.Cut(strings.TrimPrefix(text, "-"), ".")
	ok = ok && len(ahead) <= api.MaxDigits
	if isShort(r.Num()) && isShort(r.Den()) && (!ok || len(r.Text()) <= len(text)) {
		return r.Text()
	}
	need(ok, api.ErrBound)
	return text
}

// isShort is whether a number has no more digits than can be read one behind the other.
func isShort(z whole.Z) bool { return len(strings.TrimPrefix(z.Text(), "-")) <= api.MaxDigits }
