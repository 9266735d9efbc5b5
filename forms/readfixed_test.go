package forms

import (
	"fmt"
	"slices"
	"strconv"
	"strings"
	"testing"

	"optima/api"
)

const baseFixed = `NAME          a base
OBJSENSE
    MIN
ROWS
 N  goal
 L  r1
 G  r2
 E  r3
 N  free
COLUMNS
    x         r1                   1   r2                   2
    y         goal                -3
    M1        'MARKER'                 'INTORG'
    z         r3                 1.5
    M2        'MARKER'                 'INTEND'
    w
RHS
    s         r1                   4   goal                 7
RANGES
    t         r1                   2
BOUNDS
 UP b         x                    5
 LO b         y                   -1
ENDATA`

// baseWith is the base text with a line put in the place of one that there is.
func baseWith(t *testing.T, line int, put string) string {
	t.Helper()
	lines := strings.Split(baseFixed, "\n")
	lines[line-1] = put
	return strings.Join(lines, "\n")
}

// checkFixed holds a text against all that it says, as plain.Spec tells it.
func checkFixed(t *testing.T, text, want string) {
	t.Helper()
	p, err := ReadFixed(text)
	if err != nil {
		t.Errorf("%s\n%s", faultText(err), text)
	} else if shown(p) != want {
		t.Errorf("%s\nwant %s\n%s", shown(p), want, text)
	}
}

const baseShown = "{Max:false Shift:-7 Cols:[{Name:x Whole:false Low:0 High:5 Cost:0} {Name:y Whole:false Low:-1 High: Cost:-3} {Name:z Whole:true Low:0 High: Cost:0} {Name:w Whole:false Low:0 High: Cost:0}] Rows:[{Name:r1 Low:2 High:4 Cols:[0] By:[1]} {Name:r2 Low:0 High: Cols:[0] By:[2]} {Name:r3 Low:0 High:0 Cols:[2] By:[3/2]} {Name:free Low: High: Cols:[] By:[]}]}"

func TestReadFixed(t *testing.T) {
	checkFixed(t, baseFixed, baseShown)
	for line, put := range map[int]string{
		1:  "NAME",
		2:  "*\nOBJSENSE   ",
		3:  "* MAX\n    MIN     ",
		4:  "\n\nROWS",
		5:  "  N goal",
		10: "COLUMNS \n",
		11: "    x         r1        1\n    x         r2                   2",
		12: "    y\n    y         goal      -3         ",
		13: "    y         'MARKER'                 'INTORG'",
		16: "    w\n    w",
		17: "*\n\nRHS",
		18: "    s         goal                 7\n    u         r1                 4.0",
		20: "    t         r1                  -2",
		23: " LO b         y               -0.1e1\n PL b         y",
		24: "ENDATA  \n\n",
	} {
		checkFixed(t, baseWith(t, line, put), baseShown)
	}
	checkFixed(t, baseWith(t, 1, "NAME \t\x00 anything 'MARKER' \xff"), baseShown)
	checkFixed(t, "*"+strings.Repeat("x", 100)+"\n\n"+baseFixed+"\n", baseShown)
	checkFixed(t, strings.Replace(baseFixed, "MIN", "MAX", 1), strings.Replace(baseShown, "Max:false", "Max:true", 1))
	checkFixed(t, strings.Replace(baseFixed, "OBJSENSE\n    MIN\n", "", 1), baseShown)
	checkFixed(t, strings.Replace(baseFixed, "    MIN\n", "", 1), baseShown)
	checkFixed(t, "ROWS\n N  'MARKER'\n L  !\n G  ~2345678\nCOLUMNS\n    *         ~2345678             1   'MARKER'             2\nENDATA", "{Max:false Shift:0 Cols:[{Name:* Whole:false Low:0 High: Cost:2}] Rows:[{Name:! Low: High:0 Cols:[] By:[]} {Name:~2345678 Low:0 High: Cols:[0] By:[1]}]}")
}

// TestHeads: each of these heads may not be missing, none but some may stand twice, or behind another one.
func TestHeads(t *testing.T) {
	for line, c := range map[int]struct {
		put string
		at  int
	}{
		1:  {"NAMED", 1},
		2:  {"OBJSENSE MAX", 2},
		3:  {"     ", 3},
		4:  {"", 5},
		5:  {"", 6},
		6:  {"ROWS", 6},
		7:  {"ROWSX", 7},
		8:  {"rows", 8},
		9:  {"NAME", 9},
		10: {"", 11},
		11: {"\t", 11},
		12: {"\r", 12},
		13: {"OBJSENSE", 13},
		14: {"RHS", 14},
		15: {"", 17},
		16: {"RANGES\nRHS", 17},
		17: {"BOUNDS", 18},
		18: {"ENDATA", 19},
		19: {"COLUMNS", 19},
		20: {"RHS", 20},
		21: {"RANGES", 21},
		22: {"BOUNDS", 22},
		23: {"ENDATA\n*", 24},
		24: {"ENDAT", 24},
	} {
		checkFault(t, strconv.Itoa(line)+" "+c.put, ReadFixed, baseWith(t, line, c.put), c.at, api.ErrText)
	}
	for text, at := range map[string]int{
		"NAME\nROWS\n N  z\nCOLUMNS":            4,
		"NAME\nROWS\n N  z\nCOLUMNS\n":          5,
		"NAME\nROWS\n N  z\nENDATA":             4,
		"NAME\nROWS\n N  z\nBOUNDS":             4,
		"NAME\nCOLUMNS\nENDATA":                 2,
		"ENDATA":                                1,
		"ROWS\nCOLUMNS\nENDATA":                 2,
		"ROWS\n\n*\nCOLUMNS\nENDATA":            4,
		"    MAX\nROWS\n N  z\nCOLUMNS\nENDATA": 1,
		"NAME\n    x":                           2,
		"* only\n":                              2,
		baseFixed + "\n ":                       25,
		baseFixed + "\n\n\nNAME":                27,
		baseFixed + "\n* a remark":              25,
		baseFixed + "x":                         24,
		baseFixed + "\r":                        24,
		strings.Replace(baseFixed, "    M2        'MARKER'                 'INTEND'\n    w\n", "", 1): 15,
	} {
		checkFault(t, text, ReadFixed, text, at, api.ErrText)
	}
}

// TestFields: all but six places of a line are blank, and what stands there is of some bytes.
func TestFields(t *testing.T) {
	const line = 18
	full := "    s         r1                   4   goal                 7"
	fields := " 11 22222222  33333333  444444444444   55555555  666666666666"
	for i := range 70 {
		bent := []byte(full + strings.Repeat(" ", 70-len(full)))
		if i < len(fields) && fields[i] != ' ' {
			continue
		}
		for _, b := range []byte("!x\t\r*\x00\x7f\x80\xff") {
			if bent[i] = b; i == 0 && b == '*' {
				continue
			}
			checkFault(t, strconv.Itoa(i), ReadFixed, baseWith(t, line, string(bent)), line, api.ErrText)
		}
	}
	for put, want := range map[string]int{
		"    s         r1        4              goal      7":               0,
		"    s         r1        4              goal                7 ":    0,
		"    s         r1        000000000004   goal                 7":    0,
		"    s         r1                4      goal             7    ":    0,
		"    s         r1                   4   goal                 7 ":   0,
		" .  s         r1                   4   goal                 7":    line,
		"  . s         r1                   4   goal                 7":    line,
		"     s        r1                   4   goal                 7":    line,
		"    s          r1                  4   goal                 7":    line,
		"    s         r1                   4    goal                7":    line,
		"    s t       r1                   4   goal                 7":    line,
		"    s         r 1                  4   goal                 7":    line,
		"    s         r1                 0 4   goal                 7":    line,
		"    s\t        r1                   4   goal                 7":   line,
		"    s         r1\x7f                  4   goal                 7": line,
		"    s         r1                   4   goal                    ":  line,
		"    s         r1                   4                        7":    line,
		"    s         r1                       goal                 7":    line,
		"    s                              4   goal                 7":    line,
		"              r1                   4   goal                 7":    line,
		"    s                                  goal                 7":    line,
		"    s         r1":                     line,
		"    s":                                line,
		"    s                              4": line,
		"    ":                                 line,
	} {
		if want == 0 {
			checkFixed(t, baseWith(t, line, put), baseShown)
		} else {
			checkFault(t, put, ReadFixed, baseWith(t, line, put), want, api.ErrText)
		}
	}
}

// TestCardsWrong: what is wrong with a card, and what is told of two things that are.
func TestCardsWrong(t *testing.T) {
	for _, c := range []struct {
		line int
		put  string
		at   int
		err  error
	}{
		{3, "    max", 3, api.ErrText},
		{3, "    MAX       x", 3, api.ErrText},
		{3, " N  MAX", 3, api.ErrText},
		{3, "    MAX\n    MAX", 4, api.ErrText},
		{5, " L  goal", 5, api.ErrText},
		{5, " E  goal", 5, api.ErrText},
		{6, " n  r1", 6, api.ErrText},
		{6, " NN r1", 6, api.ErrText},
		{6, " L", 6, api.ErrText},
		{6, "    r1", 6, api.ErrText},
		{6, " L  r1        x", 6, api.ErrText},
		{6, " L  goal", 6, api.ErrName},
		{6, " X  goal", 6, api.ErrText},
		{7, " G  r1", 7, api.ErrName},
		{9, " N  goal", 9, api.ErrName},

		{11, "    x         r1                  1x", 11, api.ErrNumber},
		{11, "    x         r1                  +1", 11, api.ErrNumber},
		{11, "    x         r1                  .1", 11, api.ErrNumber},
		{11, "    x         r1                 1/2", 11, api.ErrNumber},
		{11, "    x         r1                1e61", 11, api.ErrNumber},
		{11, "    x         r1                   0", 11, api.ErrNumber},
		{11, "    x         goal               0.0", 11, api.ErrNumber},
		{11, "    x         r9                   0", 11, api.ErrNumber},
		{11, "    x         r9                   1", 11, api.ErrName},
		{11, "    x         r1                   1   r9                   1", 11, api.ErrName},
		{11, "    x         r9                   1   r1                   y", 11, api.ErrName},
		{11, "    x         r1                   1   r1                   2", 11, api.ErrText},
		{11, "    x         r1                   1   r1                   0", 11, api.ErrNumber},
		{11, "    x         r1                   1\n    x         r2                   1   r1                   2", 12, api.ErrText},
		{11, "    x         goal                 1\n    x         goal                 2", 12, api.ErrText},
		{11, "    x         free                 1\n    x         free                 2", 12, api.ErrText},
		{11, " N  x         r1                   1", 11, api.ErrText},
		{11, "    x         r9", 11, api.ErrText},
		{16, "    x         r1                   1", 16, api.ErrName},
		{16, "    y\n    x         r9                   0", 16, api.ErrName},
		{16, "    z", 16, api.ErrText},
		{16, "    z         r9                   0", 16, api.ErrText},
		{16, "    z         r9", 16, api.ErrText},

		{13, "    M1        'MARKER'                 'INTEND'", 13, api.ErrText},
		{13, "    M1        'MARKER'                 INTORG", 13, api.ErrText},
		{13, "              'MARKER'                 'INTORG'", 13, api.ErrText},
		{13, "    M1        'MARKER'             1   'INTORG'", 13, api.ErrText},
		{13, "    M1        'MARKER'                 'INTORG'             1", 13, api.ErrText},
		{13, " UP M1        'MARKER'                 'INTORG'", 13, api.ErrText},
		{13, "    M1        'MARKER'", 13, api.ErrText},
		{15, "    M1        'MARKER'                 'INTORG'", 15, api.ErrText},
		{15, "    M1        'MARKER'                 'INTEND'\n    M1        'MARKER'                 'INTEND'", 16, api.ErrText},
		{16, "    M1        'MARKER'                 'INTORG'", 17, api.ErrText},
		{16, "    M1        'MARKER'                 'INTORG'\n    M1        'MARKER'                 'INTEND'\n    z", 18, api.ErrText},
		{16, "    z1\n    M1        'MARKER'                 'INTORG'\n    z", 18, api.ErrName},

		{18, "    s         r1                   4   goal                 y", 18, api.ErrNumber},
		{18, "    s         r1                   4   goal               1/2", 18, api.ErrNumber},
		{18, "    s         r9                   4   goal                 y", 18, api.ErrName},
		{18, "    s         r9                   x   goal                 7", 18, api.ErrNumber},
		{18, "    s         r1                   4   r1                   4", 18, api.ErrText},
		{18, "    s         free                 4", 18, api.ErrText},
		{18, "    s         free                 x", 18, api.ErrNumber},
		{18, "    s         r1                   0\n    u         r1                   0", 19, api.ErrText},
		{18, "    s         goal                 0\n    s         goal                 0", 19, api.ErrText},

		{20, "    t", 20, api.ErrText},
		{20, "    t         goal                 1", 20, api.ErrName},
		{20, "    t         goal                 0", 20, api.ErrName},
		{20, "    t         goal                 x", 20, api.ErrNumber},
		{20, "    t         goal", 20, api.ErrText},
		{20, "    t         r1                   1   goal                 1", 20, api.ErrName},
		{20, "    t         goal                 1   r1                   x", 20, api.ErrName},
		{20, "    t         r1                   1\n    t         goal                 1", 21, api.ErrName},
		{20, "    t         free                 1   goal                 1", 20, api.ErrText},
		{20, "    t         goal                 1   free                 1", 20, api.ErrName},
		{20, "    t         free                 1", 20, api.ErrText},
		{20, "    t         r9                   1", 20, api.ErrName},
		{20, "    t         r9                  -x", 20, api.ErrNumber},
		{20, "    t         r1                   1   r1                   1", 20, api.ErrText},
		{20, "    t         r1                   0\n    t         r3                   1   r1                   0", 21, api.ErrText},

		{22, " up b         x                    5", 22, api.ErrText},
		{22, " UP           x                    5", 22, api.ErrText},
		{22, "    b         x                    5", 22, api.ErrText},
		{22, " UP b                              5", 22, api.ErrText},
		{22, " UP b         x", 22, api.ErrText},
		{22, " UP b         x                    5   y", 22, api.ErrText},
		{22, " UP b         x                    5                        1", 22, api.ErrText},
		{22, " FR b         x                    5", 22, api.ErrText},
		{22, " MI b         x                    5", 22, api.ErrText},
		{22, " PL b         x                    5", 22, api.ErrText},
		{22, " BV b         x                    5", 22, api.ErrText},
		{22, " FX b         x", 22, api.ErrText},
		{22, " LO b         x", 22, api.ErrText},
		{22, " XX b         x", 22, api.ErrText},
		{22, " UP b         x                    y", 22, api.ErrNumber},
		{22, " UP b         q                    y", 22, api.ErrName},
		{22, " XX b         q", 22, api.ErrName},
		{22, " XX b         q                    5", 22, api.ErrText},
		{22, " UP b         q", 22, api.ErrText},
		{22, " UP b         r1                   5", 22, api.ErrName},
		{23, " UP b         x                    y", 23, api.ErrNumber},
		{23, " UP b         x                    5", 23, api.ErrText},
	} {
		checkFault(t, fmt.Sprintf("%d %q", c.line, c.put), ReadFixed, baseWith(t, c.line, c.put), c.at, c.err)
	}
}

// TestBoundKinds: what each kind tells, and that no bound is told twice.
func TestBoundKinds(t *testing.T) {
	type told struct {
		low, high bool
		card      string
		bounds    [2]string
	}
	kinds := map[string]told{
		"LO": {true, false, " LO b         w                   -2", [2]string{"-2", ""}},
		"UP": {false, true, " UP b         w                   -3", [2]string{"0", "-3"}},
		"FX": {true, true, " FX b         w                    9", [2]string{"9", "9"}},
		"FR": {true, true, " FR b         w", [2]string{"", ""}},
		"MI": {true, false, " MI b         w", [2]string{"", ""}},
		"PL": {false, true, " PL b         w", [2]string{"0", ""}},
		"BV": {true, true, " BV b         w", [2]string{"0", "1"}},
	}
	for a, first := range kinds {
		want := strings.Replace(baseShown, "{Name:w Whole:false Low:0 High: ", fmt.Sprintf("{Name:w Whole:%v Low:%s High:%s ", a == "BV", first.bounds[0], first.bounds[1]), 1)
		checkFixed(t, baseWith(t, 23, first.card+"\n LO b         y                   -1"), want)
		for b, second := range kinds {
			text := baseWith(t, 23, first.card+"\n"+second.card)
			if first.low && second.low || first.high && second.high {
				checkFault(t, a+" "+b, ReadFixed, text, 24, api.ErrText)
			} else if _, err := ReadFixed(text); err != nil {
				t.Errorf("%s %s: %s", a, b, faultText(err))
			}
		}
	}
}

// TestRowBounds: what each kind of row makes of its side and its range.
func TestRowBounds(t *testing.T) {
	for _, c := range []struct{ kind, side, reach, low, high string }{
		{"N", "", "", "", ""},
		{"L", "", "", "", "0"},
		{"L", "5", "", "", "5"},
		{"L", "5", "2", "3", "5"},
		{"L", "5", "-2", "3", "5"},
		{"L", "", "0", "0", "0"},
		{"G", "", "", "0", ""},
		{"G", "5", "", "5", ""},
		{"G", "5", "2", "5", "7"},
		{"G", "5", "-2", "5", "7"},
		{"G", "-1.5", "0", "-3/2", "-3/2"},
		{"E", "", "", "0", "0"},
		{"E", "5", "", "5", "5"},
		{"E", "5", "2", "5", "7"},
		{"E", "5", "-2", "3", "5"},
		{"E", "5", "0", "5", "5"},
		{"E", "", "-0.5", "-1/2", "0"},
	} {
		text := "ROWS\n N  z\n " + c.kind + "  r\nCOLUMNS\n"
		if c.side != "" {
			text += "RHS\n    s         r         " + c.side + "\n"
		}
		if c.reach != "" {
			text += "RANGES\n    s         r         " + c.reach + "\n"
		}
		checkFixed(t, text+"ENDATA\n", "{Max:false Shift:0 Cols:[] Rows:[{Name:r Low:"+c.low+" High:"+c.high+" Cols:[] By:[]}]}")
	}
}

// TestFixedMost: as many rows and columns as there may be, and one more.
func TestFixedMost(t *testing.T) {
	rows, cols := "ROWS\n N  goal\n", "COLUMNS\n"
	for i := range api.MaxRows {
		rows += " L  r" + strconv.Itoa(i) + "\n"
	}
	for i := range api.MaxCols {
		cols += "    c" + strconv.Itoa(i) + "\n"
	}
	p, err := ReadFixed(rows + cols + "ENDATA")
	if err != nil || len(p.Rows) != api.MaxRows || len(p.Cols) != api.MaxCols {
		t.Fatal(err)
	}
	checkFault(t, "row", ReadFixed, rows+" N  r", api.MaxRows+3, api.ErrBound)
	checkFault(t, "row", ReadFixed, rows+" N  r7", api.MaxRows+3, api.ErrName)
	last := strings.Count(rows+cols, "\n") + 1
	checkFault(t, "column", ReadFixed, rows+cols+"    c         r9                   x", last, api.ErrBound)
	checkFault(t, "column", ReadFixed, rows+cols+"    c7        r9                   x", last, api.ErrName)
	checkFault(t, "column", ReadFixed, rows+cols+"    c         r9", last, api.ErrText)
}

// TestFixedLaidOut: problems that are laid out by another rule than WriteFixed's.
func TestFixedLaidOut(t *testing.T) {
	s := scatter(1234567891)
	for range 2000 {
		spec := s.spec(s.fixedName, s.fixedNumber)
		p := made(t, spec)
		spec = *specOf(p)
		checkFixed(t, s.laidOut(spec), shown(p))
	}
}

func (s *scatter) fixedName(used map[string]int) string {
	return s.name(used, 8, "abXY!~*09+(", "abXY!~*09'\\\"&")
}

func (s *scatter) fixedNumber() string {
	return s.among("0", "1", "-1", "2", "7", "-30", "999", "0.5", "-1.25", "0.001", "123456.789", "-999999", "1e3")
}

// at lays fields out in a line, at the left, at the right or between them, where that may be.
func (s *scatter) at(fields [6]string) string {
	line := ""
	for i, start := range []int{2, 5, 15, 25, 40, 50} {
		if fields[i] == "" {
			continue
		}
		width := []int{2, 8, 8, 12, 8, 12}[i]
		move := 0
		if i%2 == 1 && i > 1 || i == 0 {
			move = s.below(width - len(fields[i]) + 1)
		}
		line += strings.Repeat(" ", start+move-1-len(line)) + fields[i]
	}
	return line + strings.Repeat(" ", s.below(3)*s.below(10)) + "\n" + s.among("", "", "", "\n", "* a remark\n")
}

// inPairs lays pairs out, one or two a card.
func (s *scatter) inPairs(name string, pairs [][2]string) string {
	text := ""
	for len(pairs) > 0 {
		fields := [6]string{"", name, pairs[0][0], pairs[0][1]}
		pairs = pairs[1:]
		if len(pairs) > 0 && s.below(2) == 0 {
			fields[4], fields[5] = pairs[0][0], pairs[0][1]
			pairs = pairs[1:]
		}
		text += s.at(fields)
	}
	return text
}

func (s *scatter) mixed(pairs [][2]string) [][2]string {
	for i := range pairs {
		j := s.below(i + 1)
		pairs[i], pairs[j] = pairs[j], pairs[i]
	}
	return pairs
}

func (s *scatter) laidOut(spec api.Spec) string {
	names := []string{}
	for _, row := range spec.Rows {
		names = append(names, row.Name)
	}
	goal := "goal"
	for slices.Contains(names, goal) {
		goal += "."
	}
	text := s.among("", "NAME\n", "NAME   x\n") + map[bool]string{true: "OBJSENSE\n    MAX\n", false: s.among("", "OBJSENSE\n", "OBJSENSE\n    MIN\n")}[spec.Max]
	text += "ROWS\n" + s.at([6]string{"N", goal})
	var sides, reaches [][2]string
	if spec.Shift != "0" || s.below(2) == 0 {
		sides = append(sides, [2]string{goal, inDecimals(spec.Shift, true)})
	}
	for _, row := range spec.Rows {
		kind, side, reach := s.rowSaid(row)
		text += s.at([6]string{kind, row.Name})
		if side != "" {
			sides = append(sides, [2]string{row.Name, side})
		}
		if reach != "" {
			reaches = append(reaches, [2]string{row.Name, reach})
		}
	}
	text += "COLUMNS\n" + s.columnsSaid(spec, goal)
	if len(sides) > 0 || s.below(2) == 0 {
		text += "RHS\n" + s.inPairs("s", s.mixed(sides))
	}
	if len(reaches) > 0 || s.below(2) == 0 {
		text += "RANGES\n" + s.inPairs("s", s.mixed(reaches))
	}
	return text + s.boundsSaid(spec.Cols) + "ENDATA" + s.among("", "\n", "\n\n")
}

func (s *scatter) columnsSaid(spec api.Spec, goal string) string {
	text, whole := "", false
	mark := func() {
		text += s.at([6]string{"", s.among("M", "x"), "'MARKER'", "", map[bool]string{false: "'INTORG'", true: "'INTEND'"}[whole], ""})
		whole = !whole
	}
	for i, col := range spec.Cols {
		if binary := col.Whole && col.Low == "0" && col.High == "1"; whole != col.Whole && !binary {
			mark()
		}
		var pairs [][2]string
		if col.Cost != "0" {
			pairs = append(pairs, [2]string{goal, inDecimals(col.Cost, false)})
		}
		for _, row := range spec.Rows {
			if k := slices.Index(row.Cols, i); k >= 0 {
				pairs = append(pairs, [2]string{row.Name, inDecimals(row.By[k], false)})
			}
		}
		if len(pairs) == 0 || s.below(4) == 0 {
			text += s.at([6]string{"", col.Name})
		}
		text += s.inPairs(col.Name, s.mixed(pairs))
	}
	if whole {
		mark()
	}
	return text
}

func (s *scatter) boundsSaid(cols []api.ColSpec) string {
	text := "BOUNDS\n"
	for _, col := range cols {
		tell := func(kind, number string) { text += s.at([6]string{kind, "b", col.Name, number}) }
		low, high := inDecimals(col.Low, false), inDecimals(col.High, false)
		switch {
		case col.Whole && low == "0" && high == "1":
			tell("BV", "")
			continue
		case low == high && low != "":
			tell("FX", low)
			continue
		case low == high:
			tell("FR", "")
			continue
		}
		if low == "" {
			tell("MI", "")
		} else if low != "0" || s.below(2) == 0 {
			tell("LO", low)
		}
		if high != "" {
			tell("UP", high)
		} else if s.below(2) == 0 {
			tell("PL", "")
		}
	}
	return text
}

// rowSaid is one of the ways to tell a row's bounds.
func (s *scatter) rowSaid(row api.RowSpec) (kind, side, reach string) {
	low, high := inDecimals(row.Low, false), inDecimals(row.High, false)
	switch {
	case low == "" && high == "":
		return "N", "", ""
	case low == "":
		return "L", high, ""
	case high == "":
		return "G", low, ""
	}
	reach = inDecimals(difference(row.High, row.Low), false)
	if reach == "0" && s.below(2) == 0 {
		return "E", low, ""
	}
	switch s.below(4) {
	case 0:
		return "L", high, s.among("", "-") + reach
	case 1:
		return "G", low, s.among("", "-") + reach
	case 2:
		return "E", low, reach
	}
	return "E", high, "-" + reach
}
