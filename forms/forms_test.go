package forms

import (
	"errors"
	"fmt"
	"strings"
	"testing"

	"optima/api"
	"optima/linear"
	"optima/plain"
	"optima/ratio"
)

type reader func(string) (*linear.Problem, error)

type writer func(*linear.Problem) (string, error)

// shown is all that a problem says, in one text.
func shown(p *linear.Problem) string { return fmt.Sprintf("%+v", plain.Spec(p)) }

func number(t *testing.T, text string) ratio.R {
	t.Helper()
	r, err := ratio.Read(text)
	if err != nil {
		t.Fatalf("%q: %v", text, err)
	}
	return r
}

// problem is the one that a text of the line format says.
func problem(t *testing.T, text string) *linear.Problem {
	t.Helper()
	p, err := ReadLines(text)
	if err != nil {
		t.Fatalf("%s: %v\n%s", text, faultText(err), text)
	}
	return p
}

func faultText(err error) string {
	var fault *api.Fault
	if errors.As(err, &fault) {
		return fmt.Sprintf("%v at %d", err, fault.At)
	}
	return fmt.Sprint(err)
}

// checkFault holds what was read against an error and its line.
func checkFault(t *testing.T, what string, read reader, text string, at int, want error) {
	t.Helper()
	p, err := read(text)
	fault, ok := err.(*api.Fault)
	if p != nil || !ok || fault.At != at || fault.Err != want {
		t.Errorf("%s: %s, want %v at %d", what, faultText(err), want, at)
	}
}

// checkPlain holds what was written against an error without a place.
func checkPlain(t *testing.T, what string, write writer, p *linear.Problem, want error) {
	t.Helper()
	if text, err := write(p); text != "" || err != want {
		t.Errorf("%s: %s, want %v\n%s", what, faultText(err), want, text)
	}
}

// checkBack writes a problem, and holds what is read of the text against it.
func checkBack(t *testing.T, write writer, read reader, p *linear.Problem) string {
	t.Helper()
	before := shown(p)
	text, err := write(p)
	if err != nil {
		t.Fatalf("%s: %s", before, faultText(err))
	}
	if len(text) > api.MaxText {
		t.Fatalf("%d bytes", len(text))
	}
	q, err := read(text)
	if err != nil {
		t.Fatalf("%s: %s\n%s", before, faultText(err), text)
	}
	if shown(q) != before || shown(p) != before {
		t.Fatalf("%s\n%s\n%s", before, shown(q), text)
	}
	return text
}

// scatter makes things out of a fixed rule.
type scatter uint64

func (s *scatter) below(n int) int {
	*s ^= *s << 13
	*s ^= *s >> 7
	*s ^= *s << 17
	return int(uint64(*s) % uint64(n))
}

func (s *scatter) among(texts ...string) string { return texts[s.below(len(texts))] }

// name is a new one of one to so many bytes; the bytes of the texts are those that may be first, and the others.
func (s *scatter) name(used map[string]int, most int, first, others string) string {
	for {
		name := first[s.below(len(first)):][:1]
		for range s.below(most) {
			name += others[s.below(len(others)):][:1]
		}
		if used[name]++; used[name] == 1 && !isWord(name) {
			return name
		}
	}
}

// spec is a problem in texts.
func (s *scatter) spec(name func(used map[string]int) string, number func() string) api.Spec {
	spec := api.Spec{Max: s.below(2) == 0, Shift: s.among("0", number())}
	used := map[string]int{}
	for range s.below(7) {
		col := api.ColSpec{Name: name(used), Whole: s.below(2) == 0, Cost: s.among("0", number())}
		col.Low, col.High = s.among("", "0", "0", number()), s.among("", "1", number())
		if s.below(4) == 0 {
			col.High = col.Low
		}
		spec.Cols = append(spec.Cols, col)
	}
	used = map[string]int{}
	for range s.below(7) {
		row := api.RowSpec{Name: name(used), Low: s.among("", number()), High: s.among("", number())}
		if s.below(4) == 0 {
			row.High = row.Low
		}
		for i := range spec.Cols {
			if by := number(); by != "0" && s.below(2) == 0 {
				row.Cols, row.By = append(row.Cols, i), append(row.By, by)
			}
		}
		spec.Rows = append(spec.Rows, row)
	}
	return spec
}

// made is the problem of a spec whose rows' bounds do not cross.
func made(t *testing.T, spec api.Spec) *linear.Problem {
	t.Helper()
	p, ok := plain.Problem(spec)
	if !ok || linear.Valid(p) != nil {
		t.Fatalf("%+v", spec)
	}
	for i, row := range p.Rows {
		if row.Low.Has && row.High.Has && row.Low.At.Cmp(row.High.At) > 0 {
			p.Rows[i].Low, p.Rows[i].High = row.High, row.Low
		}
	}
	return p
}

func TestTooLong(t *testing.T) {
	for what, read := range map[string]reader{"fixed": ReadFixed, "lines": ReadLines} {
		checkFault(t, what, read, strings.Repeat("\n", api.MaxText)+"\x00", 0, api.ErrBound)
		checkFault(t, what, read, strings.Repeat(";", api.MaxText+1), 0, api.ErrBound)
		checkFault(t, what, read, strings.Repeat("\n", api.MaxText), api.MaxText+1, api.ErrText)
		checkFault(t, what, read, "", 1, api.ErrText)
	}
	fixed := "ROWS\n N  z\nCOLUMNS\nENDATA\n"
	if p, err := ReadFixed(fixed + strings.Repeat("\n", api.MaxText-len(fixed))); err != nil || shown(p) != "{Max:false Shift:0 Cols:[] Rows:[]}" {
		t.Error(err, shown(p))
	}
	lines := "minimize nought subject to bounds end"
	if p, err := ReadLines(lines + strings.Repeat(" ", api.MaxText-len(lines))); err != nil || shown(p) != "{Max:false Shift:0 Cols:[] Rows:[]}" {
		t.Error(err, shown(p))
	}
}

// TestNotValid: what is no problem is told ahead of all else.
func TestNotValid(t *testing.T) {
	p := problem(t, "minimize x subject to one: x free bounds x free end")
	for what, write := range map[string]writer{"fixed": WriteFixed, "lines": WriteLines} {
		checkPlain(t, what, write, nil, api.ErrShape)
		q := linear.Twin(p)
		q.Cols[0].Name = ""
		checkPlain(t, what, write, q, api.ErrName)
		q = linear.Twin(p)
		q.Cols[0].Name = "a b"
		q.Rows[0].Terms[0].Col = 1
		checkPlain(t, what, write, q, api.ErrShape)
		q = linear.Twin(p)
		q.Cols[0].Name = "a b"
		q.Rows = make([]linear.Row, api.MaxRows+1)
		checkPlain(t, what, write, q, api.ErrBound)
	}
}

// TestBytesBent: whatever a text is bent to, it is read, or there is a fault at one of its lines.
func TestBytesBent(t *testing.T) {
	s := scatter(987654321)
	texts := []string{baseFixed, baseLines}
	for i, read := range []reader{ReadFixed, ReadLines} {
		good := 0
		for range 20000 {
			bent := []byte(texts[i])
			for range 1 + s.below(3) {
				at := s.below(len(bent))
				switch s.below(3) {
				case 0:
					bent[at] = byte(s.below(256))
				case 1:
					bent = append(bent[:at], bent[at+1:]...)
				default:
					from := s.below(len(bent))
					bent[at] = bent[from]
				}
			}
			text := string(bent)
			p, err := read(text)
			if err == nil && linear.Valid(p) == nil {
				good++
				continue
			}
			fault, ok := err.(*api.Fault)
			if p != nil || !ok || fault.At < 1 || fault.At > strings.Count(text, "\n")+1 {
				t.Fatalf("%q: %s", text, faultText(err))
			}
		}
		if good == 0 || good == 20000 {
			t.Error(i, good)
		}
	}
}
