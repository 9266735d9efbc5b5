package matrix

import (
	"errors"
	"fmt"
	"math/big"
	"strings"
	"testing"

	"optima/api"
	"optima/ratio"
)

// at reads a table: rows are parted by strokes, numbers by blanks; nothing at all is a table of no rows.
func at(t *testing.T, s string) [][]ratio.R {
	t.Helper()
	if s == "" {
		return nil
	}
	var out [][]ratio.R
	for _, line := range strings.Split(s, "|") {
		out = append(out, list(t, line))
	}
	return out
}

func list(t *testing.T, s string) []ratio.R {
	t.Helper()
	out := []ratio.R{}
	for _, word := range strings.Fields(s) {
		r, err := ratio.Read(word)
		if err != nil {
			t.Fatalf("%q: %v", s, err)
		}
		out = append(out, r)
	}
	return out
}

func textOf(row []ratio.R) string {
	words := make([]string, 0, len(row))
	for _, r := range row {
		words = append(words, r.Text())
	}
	return strings.Join(words, " ")
}

func told(a [][]ratio.R) string {
	lines := make([]string, 0, len(a))
	for _, row := range a {
		lines = append(lines, textOf(row))
	}
	return strings.Join(lines, "|")
}

// scatter gives numbers that have no order to speak of, the same in each run.
type scatter uint64

func (s *scatter) below(n int) int {
	*s = *s*6364136223846793005 + 1442695040888963407
	return int(uint64(*s>>33) % uint64(n))
}

// table is one of scattered fractions, of which about one in three is 0; rows that follow from others come up too.
func (s *scatter) table(rows, width int) [][]ratio.R {
	out := make([][]ratio.R, rows)
	for i := range out {
		if i > 1 && s.below(4) == 0 {
			by := s.number()
			for col := range width {
				out[i] = append(out[i], out[i-1][col].Mul(by).Sub(out[i-2][col]))
			}
			continue
		}
		for range width {
			out[i] = append(out[i], s.number())
		}
	}
	return out
}

func (s *scatter) number() ratio.R {
	switch s.below(3) {
	case 0:
		return ratio.R{}
	case 1:
		return ratio.Int(int64(s.below(11) - 5))
	}
	r, _ := ratio.Int(int64(s.below(41) - 20)).Quo(ratio.Int(int64(1 + s.below(9))))
	return r
}

func rats(a [][]ratio.R) [][]*big.Rat {
	out := make([][]*big.Rat, len(a))
	for i, row := range a {
		for _, r := range row {
			x, _ := new(big.Rat).SetString(r.Text())
			out[i] = append(out[i], x)
		}
	}
	return out
}

// texts is what told says of fractions of the library.
func texts(a [][]*big.Rat) string {
	var lines []string
	for _, row := range a {
		var words []string
		for _, x := range row {
			words = append(words, x.RatString())
		}
		lines = append(lines, strings.Join(words, " "))
	}
	return strings.Join(lines, "|")
}

// eliminate is the school's way, over the library's fractions: the reduced form, its columns, and the determinant of a square table.
func eliminate(a [][]*big.Rat) ([]int, *big.Rat) {
	det := big.NewRat(1, 1)
	var cols []int
	for col := 0; len(a) > 0 && col < len(a[0]); col++ {
		top := len(cols)
		from := top
		for from < len(a) && a[from][col].Sign() == 0 {
			from++
		}
		if from == len(a) {
			det = new(big.Rat)
			continue
		}
		if from != top {
			a[from], a[top] = a[top], a[from]
			det.Neg(det)
		}
		cols = append(cols, col)
		lead := new(big.Rat).Set(a[top][col])
		det.Mul(det, lead)
		for _, x := range a[top] {
			x.Quo(x, lead)
		}
		for i, row := range a {
			by := new(big.Rat).Set(row[col])
			for j := range row {
				if i != top {
					row[j].Sub(row[j], new(big.Rat).Mul(by, a[top][j]))
				}
			}
		}
	}
	return cols, det
}

func TestReducedByHand(t *testing.T) {
	for _, c := range []struct{ in, out, cols string }{
		{"", "", "[]"},
		{" ", "", "[]"},
		{" | | ", "||", "[]"},
		{"0", "0", "[]"},
		{"-7/3", "1", "[0]"},
		{"0 0 0|0 0 0", "0 0 0|0 0 0", "[]"},
		{"0 0 3", "0 0 1", "[2]"},
		{"0|0|2", "1|0|0", "[0]"},
		{"0 0|0 5|0 0|3 0", "1 0|0 1|0 0|0 0", "[0 1]"},
		{"1 2 3|2 4 6|1 2 4", "1 2 0|0 0 1|0 0 0", "[0 2]"},
		{"0 1/2 1 0 1|0 1/3 2/3 1 2|0 1 2 1 3", "0 1 2 0 0|0 0 0 1 0|0 0 0 0 1", "[1 3 4]"},
		{"1 1|1 1", "1 1|0 0", "[0]"},
	} {
		m, cols, err := Reduced(at(t, c.in))
		if err != nil || told(m) != c.out || fmt.Sprint(cols) != c.cols || len(m) != len(at(t, c.in)) {
			t.Errorf("%q: %q, %v, %v; want %q, %s", c.in, told(m), cols, err, c.out, c.cols)
		}
	}
}

func TestReducedScattered(t *testing.T) {
	s := scatter(1)
	for n := range 600 {
		a := s.table(1+n%7, 1+s.below(7))
		want := rats(a)
		wantCols, _ := eliminate(want)
		m, cols, err := Reduced(a)
		if err != nil || told(m) != texts(want) || fmt.Sprint(cols) != fmt.Sprint(wantCols) {
			t.Fatalf("%s: %s, %v, %v; want %s, %v", told(a), told(m), cols, err, texts(want), wantCols)
		}
	}
}

func TestProductByHand(t *testing.T) {
	for _, c := range []struct{ a, b, out string }{
		{"", "", ""},
		{" | ", "", "|"},
		{"1|2", " ", "|"},
		{"2", "3/4", "3/2"},
		{"1 2 3", "1|1/2|1/3", "3"},
		{"1|1/2|1/3", "1 2 3", "1 2 3|1/2 1 3/2|1/3 2/3 1"},
		{"0 0|1 -1", "5 7|5 7", "0 0|0 0"},
		{"2 4|6 8", "10 20|30 40", "140 200|300 440"},
	} {
		m, err := Product(at(t, c.a), at(t, c.b))
		if err != nil || told(m) != c.out || len(m) != len(at(t, c.a)) {
			t.Errorf("%q times %q: %q, %v", c.a, c.b, told(m), err)
		}
	}
}

func TestProductScattered(t *testing.T) {
	s := scatter(2)
	for n := range 300 {
		deep := 1 + n%6
		a, b := s.table(1+s.below(6), deep), s.table(deep, 1+s.below(6))
		m, err := Product(a, b)
		if err != nil || len(m) != len(a) {
			t.Fatalf("%s times %s: %v", told(a), told(b), err)
		}
		for i, row := range a {
			for col := range b[0] {
				want := ratio.R{}
				for k, r := range row {
					want = want.Add(r.Mul(b[k][col]))
				}
				if len(m[i]) != len(b[0]) || m[i][col].Cmp(want) != 0 {
					t.Fatalf("%s times %s: %s", told(a), told(b), told(m))
				}
			}
		}
	}
}

// sized is a table of such a size, with 1 in the main diagonal.
func sized(rows, width int) [][]ratio.R {
	out := make([][]ratio.R, rows)
	for i := range out {
		out[i] = make([]ratio.R, width)
		if i < width {
			out[i][i] = ratio.Int(1)
		}
	}
	return out
}

func TestNoTables(t *testing.T) {
	most := api.MaxSide
	for name, a := range map[string][][]ratio.R{
		"rows of other lengths": at(t, "1 2|3"),
		"a longer row":          at(t, "1|2|3 4"),
		"a nil row":             {list(t, "1"), nil},
		"too many rows":         sized(most+1, 1),
		"too many empty rows":   make([][]ratio.R, most+1),
		"too many columns":      sized(1, most+1),
		"too many of both":      sized(most+1, most+1),
	} {
		if m, cols, err := Reduced(a); err != api.ErrShape || m != nil || cols != nil {
			t.Errorf("Reduced, %s: %v", name, err)
		}
		if m, err := Product(a, sized(most, 1)); err != api.ErrShape || m != nil {
			t.Errorf("Product, %s: %v", name, err)
		}
		if m, err := Product(sized(1, len(a)), a); err != api.ErrShape || m != nil {
			t.Errorf("Product behind, %s: %v", name, err)
		}
		if f, err := Factor(a); err != api.ErrShape || f != nil {
			t.Errorf("Factor, %s: %v", name, err)
		}
	}
}

func TestProductOfOtherShapes(t *testing.T) {
	for _, c := range []struct{ a, b string }{{"", "1"}, {"", " "}, {"1", ""}, {"1 2", "1 2"}, {"1|2", "1|2"}, {" ", " "}} {
		if m, err := Product(at(t, c.a), at(t, c.b)); !errors.Is(err, api.ErrShape) || m != nil {
			t.Errorf("%q times %q: %v", c.a, c.b, err)
		}
	}
}

// hilbert has fractions that are all small, and a determinant that is smaller than any of them.
func hilbert(size int) [][]ratio.R {
	out := make([][]ratio.R, size)
	for i := range size {
		for j := range size {
			r, _ := ratio.Int(1).Quo(ratio.Int(int64(i + j + 1)))
			out[i] = append(out[i], r)
		}
	}
	return out
}

func TestGreatestTables(t *testing.T) {
	most := api.MaxSide
	a := hilbert(most)
	m, cols, err := Reduced(a)
	if err != nil || told(m) != told(sized(most, most)) || len(cols) != most {
		t.Error("Reduced", err)
	}
	f, err := Factor(a)
	if err != nil {
		t.Fatal(err)
	}
	_, det := eliminate(rats(a))
	if f.Det().Text() != det.RatString() || f.Size() != most {
		t.Error("Det")
	}
	x, err := f.Solve(a[most-1]) // it is its last column too
	if err != nil || textOf(x) != textOf(sized(most, most)[most-1]) {
		t.Error("Solve", err)
	}
	if m, err := Product(sized(most, most), a); err != nil || told(m) != told(a) {
		t.Error("Product", err)
	}
}

// ofLong is a number of more digits than one that is read may have.
func ofLong(t *testing.T, n int) ratio.R {
	t.Helper()
	long := list(t, strings.Repeat("9", api.MaxDigits)+"/"+strings.Repeat("7", api.MaxDigits-1)+"1")[0]
	return long.Mul(long).Add(ratio.Int(int64(n)))
}

func TestLongNumbers(t *testing.T) {
	a := [][]ratio.R{{ofLong(t, 1), ofLong(t, 2), ofLong(t, 3)}, {ofLong(t, 5), ofLong(t, 7), ofLong(t, 11)}, {ofLong(t, 13), ofLong(t, -17), ofLong(t, 19)}}
	f, err := Factor(a)
	if err != nil {
		t.Fatal(err)
	}
	if _, det := eliminate(rats(a)); f.Det().Text() != det.RatString() {
		t.Error("Det")
	}
	checkUndo(t, f, a)
}

// TestRowsOfAnswers: what is written into one row, or behind it, is not seen in another one, nor in what was handed over.
func TestRowsOfAnswers(t *testing.T) {
	a := at(t, "1 2 3|4 5 6|7 8 10")
	kept := told(a)
	shared := [][]ratio.R{a[0], a[0], a[2]}
	for name, call := range map[string]func() [][]ratio.R{
		"Reduced":              func() [][]ratio.R { m, _, _ := Reduced(a); return m },
		"Product":              func() [][]ratio.R { m, _ := Product(sized(3, 3), a); return m },
		"Reduced of one twice": func() [][]ratio.R { m, _, _ := Reduced(shared); return m },
		"Product of one twice": func() [][]ratio.R { m, _ := Product(shared, shared); return m },
	} {
		m := call()
		for i := range m {
			others := told(m[:i]) + "#" + told(m[i+1:])
			for j := range m[i] {
				m[i][j] = ratio.Int(-99)
			}
			_ = append(m[i], ratio.Int(-98), ratio.Int(-97))
			if told(m[:i])+"#"+told(m[i+1:]) != others {
				t.Errorf("%s: row %d runs into another", name, i)
			}
		}
		if told(a) != kept {
			t.Fatalf("%s: %s", name, told(a))
		}
	}
}
