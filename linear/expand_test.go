package linear

import (
	"errors"
	"strconv"
	"strings"
	"testing"

	"optima/api"
	"optima/tongue"
)

func tree(t *testing.T, text string) *api.Node {
	t.Helper()
	n, err := tongue.Read(text)
	if err != nil {
		t.Fatalf("%.200q: %v", text, err)
	}
	return n
}

// expanded is what a text says, or `no sense at` a statement.
func expanded(t *testing.T, text string) string {
	t.Helper()
	p, err := Expand(tree(t, text))
	var fault *api.Fault
	switch {
	case err == nil:
		if wrong := Valid(p); wrong != nil {
			t.Errorf("%.200q: a problem that is not valid: %v", text, wrong)
		}
		return shown(p)
	case p == nil && errors.Is(err, api.ErrSense) && errors.As(err, &fault):
		return "no sense at " + strconv.Itoa(fault.At)
	}
	t.Fatalf("%.200q: %v, %v", text, p, err)
	return ""
}

type said struct{ text, want string }

func check(t *testing.T, cases []said) {
	t.Helper()
	for _, c := range cases {
		if got := expanded(t, c.text); got != c.want {
			t.Errorf("%.200q:\n%.300s, want\n%.300s", c.text, got, c.want)
		}
	}
}

// members is what a set has, told by the names of columns.
func members(t *testing.T, ahead, set string) string {
	t.Helper()
	p, err := Expand(tree(t, ahead+"var x{member in "+set+"};"))
	if err != nil {
		return "no sense"
	}
	var out []string
	for _, c := range p.Cols {
		if name, ok := strings.CutPrefix(c.Name, "x["); ok {
			out = append(out, strings.TrimSuffix(name, "]"))
		}
	}
	return strings.Join(out, " ")
}

// sum is what an expression comes to, told by a goal.
func sum(t *testing.T, ahead, expression string) string {
	t.Helper()
	p, err := Expand(tree(t, ahead+"minimize goal: "+expression+";"))
	if err != nil {
		return "no sense"
	}
	out := p.Shift.Text()
	for _, c := range p.Cols {
		if c.Cost.Sign() != 0 {
			out += " " + c.Name + " " + c.Cost.Text()
		}
	}
	return out
}

func TestExpand(t *testing.T) {
	check(t, []said{
		{"", "least 0"},
		{"# nothing\n", "least 0"},
		{"set A = {a, b}; param c{i in A} : [a] 3 [b] 5; var x{i in A} >= 0 <= 4; maximize z: sum{i in A} c[i] * x[i]; subject one: x['a'] + 2 * x['b'] <= 6;",
			"most 0; x[a] (0, 4) 3; x[b] (0, 4) 5; one: 1*0 2*1 (-, 6)"},
		{"var x >= 0 <= -1; minimize z: x;", "least 0; x (0, -1) 1"},
		{"var x integer >= 0 <= 3; var y integer >= 0 <= 3; maximize z: x + y; subject r: 2 * x + 2 * y <= 5;",
			"most 0; x (0, 3) 1 whole; y (0, 3) 1 whole; r: 2*0 2*1 (-, 5)"},
		{"minimize z: 4.5 - 1; var x;", "least 7/2; x (-, -) 0"}, // a goal has no columns of later variables
		{"maximize z: -0.25;", "most -1/4"},
		{"param n = 2; set S = 1 .. n; var f{i in S, j in S : i <> j} binary; subject r{i in S}: sum{j in S : j <> i} (f[i, j] - f[j, i]) = i;",
			"least 0; f[1,2] (0, 1) 0 whole; f[2,1] (0, 1) 0 whole; r[1]: 1*0 -1*1 (1, 1); r[2]: -1*0 1*1 (2, 2)"},
	})
}

func TestVariables(t *testing.T) {
	check(t, []said{
		{"var x; var y integer; var z binary;", "least 0; x (-, -) 0; y (-, -) 0 whole; z (0, 1) 0 whole"},
		{"var x >= 1/3; var y <= 2; var z integer >= -1/2 <= 1/2;", "least 0; x (1/3, -) 0; y (-, 2) 0; z (-1/2, 1/2) 0 whole"},
		{"var x{i in 2 .. 3, j in {b, a}} >= i <= i * i;", "least 0; x[2,b] (2, 4) 0; x[2,a] (2, 4) 0; x[3,b] (3, 9) 0; x[3,a] (3, 9) 0"},
		{"var x{i in -2 .. 2 : i * i > 1};", "least 0; x[-2] (-, -) 0; x[2] (-, -) 0"},
		{"var x{i in {}} >= 1 / 0;", "least 0"},
		{"var x{i in {a}} binary; var y{i in {a}} integer;", "least 0; x[a] (0, 1) 0 whole; y[a] (-, -) 0 whole"},
		{"var x; var y >= x;", "no sense at 1"},
		{"var x; var y >= x - x + 2;", "least 0; x (-, -) 0; y (2, -) 0"},
		{"var x >= 'a';", "no sense at 0"},
		{"var x <= 'a';", "no sense at 0"},
		{"var x{i in {a}} <= i;", "no sense at 0"},
		{"var x >= x;", "no sense at 0"},
		{"var x{i in 1 .. 2} >= if i = 1 then 0 else x[1];", "no sense at 0"},
	})
	all := "var x{i in 1 .. " + strconv.Itoa(api.MaxCols-1) + "}; "
	if p, err := Expand(tree(t, all+"var y;")); err != nil || len(p.Cols) != api.MaxCols || p.Cols[api.MaxCols-1].Name != "y" {
		t.Errorf("most columns: %v", err)
	}
	check(t, []said{
		{all + "var y; var z{i in {}};  var z2;", "no sense at 3"},
		{all + "var y{i in {a, b}};", "no sense at 1"},
	})
}

func TestGoals(t *testing.T) {
	check(t, []said{
		{"var x; var y; maximize z: 3 + 2 * x - 5 - x / 2;", "most -2; x (-, -) 3/2; y (-, -) 0"},
		{"var x; minimize z: x - x;", "least 0; x (-, -) 0"},
		{"minimize f: 1; minimize g: 1;", "no sense at 1"},
		{"maximize f: 1; var x; minimize g: x;", "no sense at 2"},
		{"minimize f: 'a';", "no sense at 0"},
		{"minimize f: 1; var x; subject r: f <= x;", "no sense at 2"}, // a goal is worth nothing
		{"minimize f: 1; subject r{f in {a}}: 1 <= 2;", "no sense at 1"},
	})
}

func TestRows(t *testing.T) {
	const two = "var x; var y; "
	const columns = "least 0; x (-, -) 0; y (-, -) 0"
	check(t, []said{
		{two + "subject r: y + 2 * x <= 3;", columns + "; r: 2*0 1*1 (-, 3)"},
		{two + "subject r: x + 1 >= 3 * y - 1/2;", columns + "; r: 1*0 -3*1 (-3/2, -)"},
		{two + "subject r: 1 = x;", columns + "; r: -1*0 (-1, -1)"},
		{two + "subject r: x + y <= y + x;", columns + "; r: (-, 0)"},
		{two + "subject r: x - 4 = x;", columns + "; r: (4, 4)"},
		{two + "subject r: 1 <= 2 * x - 3 * y + 1 <= 9;", columns + "; r: 2*0 -3*1 (0, 8)"},
		{two + "subject r: 9 >= y - x - 1 >= 1/2;", columns + "; r: -1*0 1*1 (3/2, 10)"},
		{two + "subject r: 5 <= x <= 4;", columns + "; r: 1*0 (5, 4)"},
		{two + "subject r: 5 >= 6 >= 7;", columns + "; r: (1, -1)"},
		{two + "subject r: x - x + 5 <= y <= 6 + 0 * x;", columns + "; r: 1*1 (5, 6)"},
		{two + "subject r{i in {b, a}, j in 1 .. 2 : not j - 1 = 0 or i = 'b'}: x <= j; subject s: 1 <= 2;",
			columns + "; r[b,1]: 1*0 (-, 1); r[b,2]: 1*0 (-, 2); r[a,2]: 1*0 (-, 2); s: (-, 1)"},
		{two + "subject r{i in {}}: 'a' <= 1 / 0;", columns},
		{two + "subject r{i in {a}}: x <= 1; subject s: r <= 1;", "no sense at 3"},
		{two + "subject r: x <= x <= 3;", "no sense at 2"},
		{two + "subject r: 3 >= x >= y;", "no sense at 2"},
		{two + "subject r: 'a' <= x;", "no sense at 2"},
		{two + "subject r: x = 'a';", "no sense at 2"},
		{two + "subject r: 'a' <= x <= 1;", "no sense at 2"},
		{two + "subject r: 1 <= 'a' <= 1;", "no sense at 2"},
		{two + "subject r: 1 <= x <= 'a';", "no sense at 2"},
		{two + "subject r: x <= 1; subject r: x <= 2;", "no sense at 3"},
		{two + "subject r: x <= r;", "no sense at 2"},
	})
	all := two + "subject r{i in 1 .. " + strconv.Itoa(api.MaxRows-1) + "}: x <= i; "
	if p, err := Expand(tree(t, all+"subject s: x <= 1;")); err != nil || len(p.Rows) != api.MaxRows || p.Rows[api.MaxRows-1].Name != "s" {
		t.Errorf("most rows: %v", err)
	}
	check(t, []said{
		{all + "subject s: x <= 1; subject q{i in {}}: x <= 1; subject u: x <= 1;", "no sense at 5"},
		{all + "subject s{i in {a, b}}: x <= 1;", "no sense at 3"},
	})
}

func TestNames(t *testing.T) {
	statements := map[string]string{
		"set": "set N = {a};", "param": "param N = 1;", "data": "param N{i in {}} : ;", "var": "var N;", "indexed": "var N{i in {}};",
		"integer": "var N integer;", "binary": "var N binary;", "goal": "minimize N: 1;", "row": "subject N: 1 <= 2;", "no rows": "subject N{i in {}}: 1 = 1;",
	}
	for first, a := range statements {
		for second, b := range statements {
			if got := expanded(t, "param M = 0; "+a+b); got != "no sense at 2" {
				t.Errorf("%s, %s: %s", first, second, got)
			}
			if first == "goal" && second == "goal" {
				continue
			}
			if got := expanded(t, a+strings.Replace(b, "N", "n", 1)); strings.HasPrefix(got, "no") {
				t.Errorf("%s, %s, with another name: %s", first, second, got)
			}
		}
		if got := expanded(t, a+"param q = sum{N in {a}} 1;"); got != "no sense at 1" {
			t.Errorf("%s: a generator has its name: %s", first, got)
		}
		if got := expanded(t, a+"param q = sum{o in {}, N in {a}} 1;"); strings.HasPrefix(got, "no") {
			t.Errorf("%s: a generator that is not come to has its name: %s", first, got)
		}
		if got := expanded(t, "param q = sum{N in {a}} 1;"+a); strings.HasPrefix(got, "no") {
			t.Errorf("%s: a generator had its name: %s", first, got)
		}
	}
}

func TestFirstFault(t *testing.T) {
	check(t, []said{
		{"param a = 1 / 0; param b = 1 / 0;", "no sense at 0"},
		{"param a = 1; param a = 2; param b = 1 / 0;", "no sense at 1"},
		{"set A = B; set B = {a};", "no sense at 0"},
		{"param a = b; param b = 1;", "no sense at 0"},
		{"minimize f: x; var x;", "no sense at 0"},
		{"set A = {a}; var x{i in A}; subject r{i in A}: x[i] <= 1; subject s{i in A}: x['b'] <= 1;", "no sense at 3"},
	})
}
