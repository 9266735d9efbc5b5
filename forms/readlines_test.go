package forms

import (
	"strconv"
	"strings"
	"testing"

	"optima/api"
)

const baseLines = "maximize 3 x + 1/2 y + 7 \\ a remark\nsubject to\none: 2 <= x + 2 y <= 6\ntwo: - x = 1.5\nthree: nought free\nbounds\n0 <= x <= 4\ny free\nz >= -2\ngenerals x\nend\n"

// checkLines holds a text against all that it says, as plain.Spec tells it.
func checkLines(t *testing.T, text, want string) {
	t.Helper()
	p, err := ReadLines(text)
	if err != nil {
		t.Errorf("%s\n%s", faultText(err), text)
	} else if shown(p) != want {
		t.Errorf("%s\nwant %s\n%s", shown(p), want, text)
	}
}

func TestReadLines(t *testing.T) {
	want := "{Max:true Shift:7 Cols:[{Name:x Whole:true Low:0 High:4 Cost:3} {Name:y Whole:false Low: High: Cost:1/2} {Name:z Whole:false Low:-2 High: Cost:0}] Rows:[{Name:one Low:2 High:6 Cols:[0 1] By:[1 2]} {Name:two Low:3/2 High:3/2 Cols:[0] By:[-1]} {Name:three Low: High: Cols:[] By:[]}]}"
	checkLines(t, baseLines, want)
	checkLines(t, strings.ReplaceAll(baseLines, " ", "\t \r"), want)
	checkLines(t, strings.ReplaceAll(baseLines, "\n", " \\ ;\x00\xff \\ end\n"), want)
	checkLines(t, strings.ReplaceAll(strings.Replace(baseLines, "\\ a remark", "", 1), " ", "\n"), want)
	checkLines(t, "maximize 3x+1/2y+7subject to one:2<=x+2y<=6two:-x=1.5three:nought free bounds 0<=x<=4y free z>=-2generals x end", want)
	checkLines(t, strings.Replace(baseLines, "3 x + 1/2 y + 7", "+ 1/2 y - 3 + 3.0 x + 10", 1), want)
	checkLines(t, strings.Replace(baseLines, "2 <= x + 2 y <= 6", "- 1 + 3 <= 2 y + 0 z + 1/3 + 1 x - 1/3 <= + 6", 1), want)
	checkLines(t, strings.Replace(baseLines, "3 x", "3 x - 0 z", 1), want)
}

// TestRowForms: what each form of a row says.
func TestRowForms(t *testing.T) {
	for said, want := range map[string]string{
		"x <= 5":               "Low: High:5 Cols:[0] By:[1]",
		"x <= -5":              "Low: High:-5 Cols:[0] By:[1]",
		"x >= +5":              "Low:5 High: Cols:[0] By:[1]",
		"- x = 1/3":            "Low:1/3 High:1/3 Cols:[0] By:[-1]",
		"+ 2 x free":           "Low: High: Cols:[0] By:[2]",
		"3 <= x":               "Low:3 High: Cols:[0] By:[1]",
		"3 <= x <= 2":          "Low:3 High:2 Cols:[0] By:[1]",
		"-3 <= - x <= -2":      "Low:-3 High:-2 Cols:[0] By:[-1]",
		"+1 - 2 + 1/2 <= x":    "Low:-1/2 High: Cols:[0] By:[1]",
		"0 <= nought":          "Low:0 High: Cols:[] By:[]",
		"0 <= nought <= 1":     "Low:0 High:1 Cols:[] By:[]",
		"1 <= 0":               "Low:1 High: Cols:[] By:[]",
		"0 <= 0 <= 7":          "Low:0 High:7 Cols:[] By:[]",
		"0 <= 2 - 2 + y":       "Low:0 High: Cols:[1] By:[1]",
		"nought <= 5":          "Low: High:5 Cols:[] By:[]",
		"nought = 5":           "Low:5 High:5 Cols:[] By:[]",
		"nought free":          "Low: High: Cols:[] By:[]",
		"0 >= 5":               "Low:5 High: Cols:[] By:[]",
		"1 - 1 = 5":            "Low:5 High:5 Cols:[] By:[]",
		"0.0 free":             "Low: High: Cols:[] By:[]",
		"x + 1 + y - 1 <= 5":   "Low: High:5 Cols:[0 1] By:[1 1]",
		"1 + y - 1 <= 5":       "Low: High:5 Cols:[1] By:[1]",
		"0 x <= 5":             "Low: High:5 Cols:[] By:[]",
		"y - 0 x <= 5":         "Low: High:5 Cols:[1] By:[1]",
		"5 <= 0 y":             "Low:5 High: Cols:[] By:[]",
		"5 <= x + 0":           "Low:5 High: Cols:[0] By:[1]",
		"5 <= x + 1 - 1":       "Low:5 High: Cols:[0] By:[1]",
		"5 <= 0 + 0":           "Low:5 High: Cols:[] By:[]",
		"5\n<=\nx - 0\n":       "Low:5 High: Cols:[0] By:[1]",
		"00.50 <= 010 x":       "Low:1/2 High: Cols:[0] By:[10]",
		"4/6 <= 3/1 x <= 10/5": "Low:2/3 High:2 Cols:[0] By:[3]",
	} {
		for _, behind := range []string{"", " z: 2 y free"} { // a row that ends in a number, and another one behind it
			text := "minimize nought subject to r: " + said + behind + " bounds x free y free end"
			rest := map[string]string{"": "", " z: 2 y free": " {Name:z Low: High: Cols:[1] By:[2]}"}[behind]
			checkLines(t, text, "{Max:false Shift:0 Cols:[{Name:x Whole:false Low: High: Cost:0} {Name:y Whole:false Low: High: Cost:0}] Rows:[{Name:r "+want+"}"+rest+"]}")
		}
	}
}

func TestBoundForms(t *testing.T) {
	for said, want := range map[string]string{
		"x <= 5":        "Low: High:5",
		"x <= - 5":      "Low: High:-5",
		"x >= 1/2":      "Low:1/2 High:",
		"x = +5":        "Low:5 High:5",
		"x free":        "Low: High:",
		"3 <= x":        "Low:3 High:",
		"+3 <= x":       "Low:3 High:",
		"-3 <= x <= -4": "Low:-3 High:-4",
	} {
		for _, behind := range []string{" y free", " -1 <= y", " +1 <= y", " 1 <= y <= 2", " y >= 0"} {
			p := problem(t, "minimize x subject to bounds "+said+behind+" generals y end")
			if got := shown(p); !strings.Contains(got, "{Name:x Whole:false "+want+" Cost:1} {Name:y Whole:true ") {
				t.Errorf("%s: %s", said, got)
			}
		}
	}
}

// TestLineTokens: what is a name, a number, and what no token.
func TestLineTokens(t *testing.T) {
	long := strings.Repeat("n", api.MaxWord)
	for _, name := range []string{"x", "X_1", "_", "[", "]", ",", "'", "!", "x.5", "x[a,b]", "Maximize", "ends", "Free", "e5", long} {
		p := problem(t, "minimize 2"+name+" subject to "+name+":"+name+" free bounds "+name+" free generals "+name+" end")
		if len(p.Cols) != 1 || p.Cols[0].Name != name || p.Rows[0].Name != name || p.Cols[0].Cost.Text() != "2" || !p.Cols[0].Whole {
			t.Errorf("%s: %s", name, shown(p))
		}
	}
	for said, want := range map[string]error{
		long + "n":                           api.ErrText,
		"maximize":                           api.ErrText,
		"minimize":                           api.ErrText,
		"subject":                            api.ErrText,
		"to":                                 api.ErrText,
		"bounds":                             api.ErrText,
		"generals":                           api.ErrText,
		"end":                                api.ErrText,
		"free":                               api.ErrText,
		".":                                  api.ErrNumber,
		".5":                                 api.ErrNumber,
		"5.":                                 api.ErrNumber,
		"5.x":                                api.ErrNumber,
		"1.5.5":                              api.ErrNumber,
		"1/2/3":                              api.ErrNumber,
		"1/0":                                api.ErrNumber,
		"1/":                                 api.ErrNumber,
		"1.5/2":                              api.ErrNumber,
		"1/2.5":                              api.ErrNumber,
		"1e5e6":                              api.ErrName, // a column that is not there
		"1x/2":                               api.ErrText,
		"/2":                                 api.ErrText,
		"x /2":                               api.ErrText,
		"x < = 5":                            api.ErrText,
		"x > 5":                              api.ErrText,
		"x == 5":                             api.ErrText,
		"x * y":                              api.ErrText,
		"x;":                                 api.ErrText,
		"x\x00":                              api.ErrText,
		"x\x0b":                              api.ErrText,
		"x\x0c":                              api.ErrText,
		"é":                                  api.ErrText,
		"x\"":                                api.ErrText,
		"x~":                                 api.ErrText,
		"x#1":                                api.ErrText,
		"x{1}":                               api.ErrText,
		"1 2":                                api.ErrText,
		"x y":                                api.ErrText,
		"- - x":                              api.ErrText,
		"nought x":                           api.ErrText,
		"nought +x":                          api.ErrText,
		"2 nought":                           api.ErrText,
		"- nought":                           api.ErrText,
		strings.Repeat("1", api.MaxDigits+1): api.ErrNumber,
		"0." + strings.Repeat("1", api.MaxDigits+1):       api.ErrNumber,
		"1/" + strings.Repeat("1", api.MaxDigits+1):       api.ErrNumber,
		"1/" + strings.Repeat("0", api.MaxDigits) + " x":  api.ErrNumber,
		"1/" + strings.Repeat("0", api.MaxDigits) + "1 x": api.ErrNumber,
	} {
		checkFault(t, said, ReadLines, "minimize\n"+said+"\n\nsubject to bounds x free end", 2, want)
	}
	if p := problem(t, "minimize "+strings.Repeat("1", api.MaxDigits)+"."+strings.Repeat("2", api.MaxDigits)+" subject to bounds end"); p.Shift.Cmp(number(t, strings.Repeat("1", api.MaxDigits)+"."+strings.Repeat("2", api.MaxDigits))) != 0 {
		t.Error(p.Shift.Text())
	}
}

// TestLinesWrong: what is wrong, and which of two things is told.
func TestLinesWrong(t *testing.T) {
	for _, c := range []struct {
		text string
		at   int
		err  error
	}{
		// a byte that is none of a token's is told ahead of all
		{"x\n\n;", 3, api.ErrText},
		{"minimize x + x subject to\nbounds x free\nend\n<", 4, api.ErrText},
		{"minimize x + x\n\\ ; \\ ;\n", 1, api.ErrName},
		// the text's end
		{"minimize x\nsubject\n\n", 4, api.ErrText},
		{"minimize\n\\ x\n", 3, api.ErrText},
		{"minimize x subject to\nr", 2, api.ErrText},
		{"minimize x subject to\nbounds x\n", 3, api.ErrText},
		{"minimize x subject to bounds x free\nend\n\nx", 4, api.ErrText},
		{"minimize x subject to bounds x free\nend end", 2, api.ErrText},
		{"minimize x subject to bounds x free\nend 1.2.3", 2, api.ErrText},
		{"maximize\nmaximize x subject to bounds x free end", 2, api.ErrText},
		{"minimize x subject to bounds x free generals\ngenerals x end", 2, api.ErrText},
		{"minimize x subject to\ngenerals x end", 2, api.ErrText},
		{"minimize x subject to bounds x free generals x\nbounds y free end", 2, api.ErrText},
		{"minimize x subject to bounds x free generals x\n1", 2, api.ErrText},
		// names
		{"minimize x\n- 2\nx\n+", 3, api.ErrName},
		{"minimize 0 x\n- 0 x", 2, api.ErrName},
		{"minimize x subject to\nr: x free r\n::", 2, api.ErrName},
		{"minimize x subject to\nr: x\n+ x free", 3, api.ErrName},
		{"minimize x subject to\nr: 1 <= x\n+ 2 x <= 1.1.1", 3, api.ErrName},
		{"minimize x subject to bounds x free\nx\n<= 1.1.1", 2, api.ErrName},
		{"minimize x subject to bounds x free\n1 <=\nx free", 3, api.ErrName},
		{"minimize x subject to bounds x free generals\ny\n+", 2, api.ErrName},
		{"minimize x subject to bounds x free generals x\nx\n+", 2, api.ErrText},
		{"minimize x subject to bounds x free generals x\nr end", 2, api.ErrName},
		// numbers of a row's sum, when its last token is read
		{"minimize x subject to r:\nx\n+ 1 <=\n5\n r: x free", 2, api.ErrText},
		{"minimize x subject to r:\nx\n+ 1 <=\n5.5.5\n", 4, api.ErrNumber},
		{"minimize x subject to r:\nx\n+ 1 <=\n+\nx", 5, api.ErrText},
		{"minimize x subject to r: 1\n<=\n-\nx - 1\nr: x free", 3, api.ErrText},
		{"minimize x subject to r: 1\n<=\n-\nx - 1\n<=", 5, api.ErrText},
		{"minimize x subject to r: 1\n<=\n-\nx - 1\n<= 1.1.1", 5, api.ErrNumber},
		{"minimize x subject to r: 1\n<=\n-\nx - 1\nfree", 3, api.ErrText},
		{"minimize x subject to r: 1\n<=\n5\nr: x free", 3, api.ErrText},
		{"minimize x subject to r: 0\n<=\n5\nbounds x free end", 3, api.ErrText},
		{"minimize x subject to r:\n1 free\n s: x free", 2, api.ErrText},
		{"minimize x subject to r:\n1 >=\n 1.1.1", 3, api.ErrNumber},
		{"minimize x subject to r:\n1 >=\n 1 bounds", 2, api.ErrText},
		{"minimize x subject to r:\nx + 1/2 - 1/3 =\n 1 bounds", 2, api.ErrText},
		// a row's name behind a number stands there only where a row may end
		{"minimize 3 x\n: y", 2, api.ErrText},
		{"minimize x subject to r: 3 s\n: y", 2, api.ErrText},
		{"minimize x subject to r: 3 <= 3 s\n: y", 1, api.ErrText},
		{"minimize x subject to r: 3 <= x + 0\nr\n: y", 2, api.ErrName},
		{"minimize x subject to r: 3 <= x + 0\nx\n= y", 2, api.ErrName},
		// columns that are not there, when all is read
		{"minimize\nx +\ny +\nz subject to r:\nw free bounds x free end", 3, api.ErrName},
		{"minimize x subject to r:\nx +\nw\n- v free s: y\nfree bounds x free end", 3, api.ErrName},
		{"minimize x subject to r:\nx free s:\n1 <= x\n+ 0 w bounds x free end", 4, api.ErrName},
		{"minimize\ny subject to r:\nx free bounds x free generals x\ny end", 4, api.ErrName},
		{"minimize\ny subject to r:\nx free bounds x free", 3, api.ErrText},
		{"minimize\nx + 0 y subject to r:\nw free bounds x free end", 2, api.ErrName},
	} {
		checkFault(t, strconv.Quote(c.text), ReadLines, c.text, c.at, c.err)
	}
}

// TestLinesMost: as many rows and columns as there may be, and one more.
func TestLinesMost(t *testing.T) {
	rows, cols := "minimize nought subject to\n", ""
	for i := range api.MaxRows {
		rows += "r" + strconv.Itoa(i) + ": c7 free\n"
	}
	for i := range api.MaxCols {
		cols += "c" + strconv.Itoa(i) + " free\n"
	}
	p := problem(t, rows+"bounds\n"+cols+"generals c119 end")
	if len(p.Rows) != api.MaxRows || len(p.Cols) != api.MaxCols || p.Rows[119].Terms[0].Col != 7 || !p.Cols[119].Whole {
		t.Error(shown(p))
	}
	last := api.MaxRows + 2
	checkFault(t, "row", ReadLines, rows+"r\n1", last, api.ErrBound)
	checkFault(t, "row", ReadLines, rows+"r7\n1", last, api.ErrName)
	last += 1 + api.MaxCols
	checkFault(t, "bound", ReadLines, rows+"bounds\n"+cols+"c\n1", last, api.ErrBound)
	checkFault(t, "bound", ReadLines, rows+"bounds\n"+cols+"1 <= c\n1", last, api.ErrBound)
	checkFault(t, "bound", ReadLines, rows+"bounds\n"+cols+"c7\n1", last, api.ErrName)
	checkFault(t, "bound", ReadLines, rows+"bounds\n"+cols+"1.1.1 <= c\n1", last, api.ErrNumber)
}

// TestManyNumbers: a sum of many fractions ends soon.
func TestManyNumbers(t *testing.T) {
	sum := ""
	for n := 10001; len(sum) < api.MaxText-100; n += 2 {
		sum += "+1/" + strconv.Itoa(n) + "-1/" + strconv.Itoa(n)
	}
	if p := problem(t, "minimize "+sum+"+2 subject to bounds end"); p.Shift.Text() != "2" {
		t.Error("the sum is not 2")
	}
	sum = ""
	for n := 10001; len(sum) < api.MaxText-100; n += 2 {
		sum += "+1/" + strconv.Itoa(n)
	}
	if p := problem(t, "minimize "+sum+" subject to bounds end"); p.Shift.Sign() <= 0 {
		t.Error("the sum is not above 0")
	}
}
