package linear

import (
	"strings"
	"testing"

	"optima/api"
)

func TestSets(t *testing.T) {
	const ahead = "set A = {c, a, 3, -2}; set B = {a, 3, z}; set E = {}; param p = 2; param h = 1/2; var v; "
	for _, c := range []said{
		{"{}", ""},
		{"{b, a, b, 1, a}", "b a 1"},
		{"{1, 01, -0, 0, -7, 7}", "1 0 -7 7"},
		{"A", "c a 3 -2"},
		{"E", ""},
		{"1 .. 3", "1 2 3"},
		{"-1 .. 1", "-1 0 1"},
		{"3 .. 3", "3"},
		{"3 .. 2", ""},
		{"3 .. -1000", ""},
		{"p .. p * p", "2 3 4"},
		{"h + h .. 4 / 2", "1 2"},
		{"sum{k in A : k = 3} k .. if p = 2 then 4 else 1", "3 4"},
		{"v - v .. 1", "0 1"},
		{"A union B", "c a 3 -2 z"},
		{"B union A", "a 3 z c -2"},
		{"A inter B", "a 3"},
		{"B inter A", "a 3"},
		{"A minus B", "c -2"},
		{"B minus A", "z"},
		{"A minus A", ""},
		{"A minus B union B", "c -2 a 3 z"},
		{"A union B minus A", "z"},
		{"{3} inter 1 .. 5 union {q}", "3 q"},
		{"1 .. 4 minus {02}", "1 3 4"},
		{"B union C", "no sense"},
		{"C", "no sense"},
		{"p", "no sense"},
		{"v", "no sense"},
		{"a", "no sense"},
		{"x", "no sense"}, // the statement's own name
		{"h .. 1", "no sense"},
		{"0 .. h", "no sense"},
		{"2 .. h", "no sense"},
		{"v .. 3", "no sense"},
		{"1 .. v", "no sense"},
		{"'a' .. 3", "no sense"},
		{"1 .. 'a'", "no sense"},
		{"3 .. 1 / 0", "no sense"},
		{"A .. 2", "no sense"},
	} {
		if got := members(t, ahead, c.text); got != c.want {
			t.Errorf("%s: %s, want %s", c.text, got, c.want)
		}
		// A set that a statement keeps is the same.
		if got := members(t, ahead+"set K = "+c.text+";", "K"); got != c.want && c.text != "x" {
			t.Errorf("%s, by a name: %s, want %s", c.text, got, c.want)
		}
	}
}

func TestMembersAreNumbersOrSymbols(t *testing.T) {
	for _, c := range []said{
		{"sum{k in {3, -2}} k", "1"},
		{"sum{k in 1 .. 100} k * k", "338350"},
		{"sum{k in {a, 3, b} : k = 'b' or k = 6 / 2} (if k = 'b' then 10 else k)", "13"},
		{"sum{k in {a}} k", "no sense"},
		{"sum{k in 1 .. 3, l in k .. 3} 10 * k + l", "no sense"}, // the product is 10 * k alone: behind it nothing is bound
		{"sum{k in 1 .. 3, l in k .. 3} (10 * k + l)", "114"},
		{"sum{k in 1 .. 3 : k <> 2} sum{l in 1 .. k} l", "7"},
	} {
		if got := sum(t, "", c.text); got != c.want {
			t.Errorf("%s: %s, want %s", c.text, got, c.want)
		}
	}
}

func TestIndices(t *testing.T) {
	check(t, []said{
		{"var x{i in {a, b}, j in {c, d}, k in {e}};", "least 0; x[a,c,e] (-, -) 0; x[a,d,e] (-, -) 0; x[b,c,e] (-, -) 0; x[b,d,e] (-, -) 0"},
		{"var x{i in 1 .. 2, j in i .. 2};", "least 0; x[1,1] (-, -) 0; x[1,2] (-, -) 0; x[2,2] (-, -) 0"},
		{"var x{i in 1 .. 2, j in i + 1 .. 2};", "least 0; x[1,2] (-, -) 0"},
		{"var x{i in {i}};", "least 0; x[i] (-, -) 0"}, // an item is a word, whatever is bound
		{"var x{i in 1 .. 2, j in {i}};", "least 0; x[1,i] (-, -) 0; x[2,i] (-, -) 0"},
		{"var x{i in 1 .. i};", "no sense at 0"},
		{"var x{i in 1 .. 2, i in {a}};", "no sense at 0"},
		{"var x{i in {}, i in {a}};", "least 0"},
		{"var x{i in {}, j in A : 1 / 0 = 1};", "least 0"},
		{"var x{i in {a}, j in {} : 1 / 0 = 1};", "least 0"},
		{"var x{i in {a} : 1 / 0 = 1};", "no sense at 0"},
		{"var x{i in 1 .. 2, j in 1 .. 2 - i, k in A};", "no sense at 0"}, // come to at 1
		{"var x{i in 2 .. 3, j in 1 .. 2 - i, k in A};", "least 0"},
		{"var x{i in {a}} >= sum{i in {b}} 1;", "no sense at 0"},
		{"var x{i in {}} >= sum{i in {b}} 1;", "least 0"},
		{"var x{i in {a}} >= sum{j in {}, i in {b}} 1;", "least 0; x[a] (0, -) 0"},
		{"var x{i in {a}} >= (sum{j in {b}} 1) + sum{j in 1 .. 2} j;", "least 0; x[a] (4, -) 0"}, // a name is free again behind its index
		{"var x{i in 1 .. 2} >= sum{j in 1 .. i} j; var y{j in {b}};", "least 0; x[1] (1, -) 0; x[2] (3, -) 0; y[b] (-, -) 0"},
		{"param p = (sum{i in {a}} 1) + i;", "no sense at 0"},
		{"param p = (sum{i in {}} 1) + i;", "no sense at 0"},
		{"param p{p in 1 .. 2} = p; var x <= p[2];", "least 0; x (-, 2) 0"}, // its own name is none of those ahead
		{"param p{i in 1 .. 2} = p;", "no sense at 0"},
		{"param p{i in 1 .. 2} = if i = 1 then 1 else p[1];", "no sense at 0"},
	})
}

func TestParams(t *testing.T) {
	const ahead = "set A = {a, b}; param p = 7; param q{i in A, j in 1 .. 2} = 10 * j + (if i = 'a' then 1 else 2); "
	for _, c := range []said{
		{"p", "7"},
		{"q['a', 1]", "11"},
		{"q['b', 4 / 2]", "22"},
		{"q['b', p - 5] * p", "154"},
		{"sum{i in A, j in 1 .. 2} q[i, j]", "66"},
		{"q[if p = 7 then 'a' else 'z', 1]", "11"},
		{"q['c', 1]", "no sense"},
		{"q['a', 3]", "no sense"},
		{"q['a', 1/2]", "no sense"},
		{"q[1, 'a']", "no sense"},
		{"q['a']", "no sense"},
		{"q['a', 1, 1]", "no sense"},
		{"q", "no sense"},
		{"p[1]", "no sense"},
		{"A['a']", "no sense"},
		{"A", "no sense"},
		{"goal", "no sense"},
		{"unknown", "no sense"},
		{"unknown[1]", "no sense"},
		{"sum{i in A} i['a']", "no sense"},
	} {
		if got := sum(t, ahead, c.text); got != c.want {
			t.Errorf("%s: %s, want %s", c.text, got, c.want)
		}
	}
	check(t, []said{
		{"param p = 'a';", "no sense at 0"},
		{"param p{i in {a, 1}} = i;", "no sense at 0"},
		{"var x; param p = x;", "no sense at 1"},
		{"var x; param p = 1 + x - x; var y <= p;", "least 0; x (-, -) 0; y (-, 1) 0"},
		{"param p{i in {}} = 'a';", "least 0"},
		{"param p{i in {}} = 1; var x <= p[1];", "no sense at 1"},
		{"param p{i in 1 .. 3 : i <> 2} = i; var x <= p[3];", "least 0; x (-, 3) 0"},
		{"param p{i in 1 .. 3 : i <> 2} = i; var x <= p[2];", "no sense at 1"},
		{"param p{i in 1 .. 3 : i <> 2} = 1 / (i - 2);", "least 0"},
	})
}

func TestData(t *testing.T) {
	const two = "set A = {a, b}; param p{i in A, j in 1 .. 2} : "
	check(t, []said{
		{two + "[a, 1] 1 [a, 2] 2 [b, 1] 3 [b, 2] -4.5; var x >= p['b', 2] <= p['a', 2];", "least 0; x (-9/2, 2) 0"},
		{two + "[b, 1] 3 default -1; var x >= p['a', 2] <= p['b', 1];", "least 0; x (-1, 3) 0"},
		{two + "default 0.5; var x >= p['a', 2];", "least 0; x (1/2, -) 0"},
		{two + "[a, 1] 1 [a, 2] 2 [b, 1] 3 [b, 2] 4 default 9;", "least 0"},
		{two + "[a, 1] 1 [a, 2] 2 [b, 1] 3;", "no sense at 1"},
		{two + ";", "no sense at 1"},
		{two + "[a, 1] 1 [a, 01] 2 default 0;", "no sense at 1"},
		{two + "[a, 1] 1 [a, 2] 2 [b, 1] 3 [b, 2] 4 [b, 2] 4;", "no sense at 1"},
		{two + "[a, 3] 1 default 0;", "no sense at 1"},
		{two + "[c, 1] 1 default 0;", "no sense at 1"},
		{two + "[1, a] 1 default 0;", "no sense at 1"},
		{two + "[a] 1 default 0;", "no sense at 1"},
		{two + "[a, 1, 1] 1 default 0;", "no sense at 1"},
		{"param p{i in {a, b}, j in {c}} : [a, c] 1 [b, c] 2 [a] 3;", "no sense at 0"},
		{"param p{i in {}} : ;", "least 0"},
		{"param p{i in {}} : default 3; var x <= p[1];", "no sense at 1"},
		{"param p{i in {}} : [a] 3;", "no sense at 0"},
		{"param p{i in {}} : [a, b] 3;", "no sense at 0"},
		{"param p{i in {i}, j in {i} : i = j} : [i, i] 3; var x <= p['i', 'i'];", "least 0; x (-, 3) 0"},
		{"param p{i in 1 .. 3 : i <> 2} : [3] 5 [1] 6; var x >= p[1] <= p[3];", "least 0; x (6, 5) 0"},
		{"param p{i in 1 .. 3 : i <> 2} : [2] 5 default 1;", "no sense at 0"},
		{"param p{i in -1 .. 0} : [-1] 5 [-0] 6; var x >= p[-1] <= p[1 - 1];", "least 0; x (5, 6) 0"},
		{"param p{i in 1 .. 2, j in 1 .. i} : [1, 1] 5 [2, 1] 6 [2, 2] 7; var x >= p[2, 2];", "least 0; x (7, -) 0"},
		{"param p{i in 1 .. 2, j in 1 .. i} : [1, 2] 5 default 7;", "no sense at 0"},
		{"param p{i in A} : [a] 1;", "no sense at 0"},
		{"param p{p in {a}} : [a] 1; var x <= p['a'];", "least 0; x (-, 1) 0"},
	})
}

func TestExpressions(t *testing.T) {
	const ahead = "param p = 6; var x; var y{i in {a, 2}}; "
	for _, c := range []said{
		{"007.50", "15/2"},
		{"1 - 2 - 3", "-4"},
		{"1 - (2 - 3)", "2"},
		{"2 / 3 / 4 * 6", "1"},
		{"-p * -2", "12"},
		{"- - -p", "-6"},
		{"x", "0 x 1"},
		{"-x - 2", "-2 x -1"},
		{"x + x", "0 x 2"},
		{"x - x", "0"},
		{"x - 3 * x + 2 * x + 1", "1"},
		{"2 * (x + 1) * 3", "6 x 6"},
		{"(x + 1) * (p + y[2] - y[2])", "6 x 6"},
		{"(x - x + 2) * (x + 3)", "6 x 2"},
		{"0 * x", "0"},
		{"x * 0 + 5", "5"},
		{"(x - x) * x", "0"},
		{"(x + p) / 4", "3/2 x 1/4"},
		{"x / (1 + x - x) / 2", "0 x 1/2"},
		{"y['a'] + y[p / 3] * 3 - x", "0 x -1 y[a] 1 y[2] 3"},
		{"sum{i in {a, 2}} y[i]", "0 y[a] 1 y[2] 1"},
		{"sum{i in {a, 2}} y[i] * 2 + 1", "1 y[a] 2 y[2] 2"},
		{"sum{i in 1 .. 3} (i * x + 1)", "3 x 6"},
		{"sum{i in {1, -1}} i * x", "0"},
		{"sum{i in {}} x", "0"},
		{"sum{i in {}} 'a'", "0"},
		{"sum{i in {}} x * x", "0"},
		{"sum{i in {}} 1 / 0", "0"},
		{"if p = 6 then x else 1 / 0", "0 x 1"},
		{"if p <> 6 then 'a' + 1 else x + 1", "1 x 1"},
		{"(if 1 = 1 then 2 else 3) + 1", "3"},
		{"if 1 = 1 then 2 else 3 + 1", "2"},
		{"if if 1 = 1 then 0 else 1 = 1 then 2 else 3", "3"},
		{"x * x", "no sense"},
		{"x * y[2]", "no sense"},
		{"(x + 1) * (x - 1)", "no sense"},
		{"1 / x", "no sense"},
		{"x / x", "no sense"},
		{"1 / (x + 1)", "no sense"},
		{"(x + 1) / (x + 1)", "no sense"},
		{"1 / 0", "no sense"},
		{"x / (p - 6)", "no sense"},
		{"0 / 0", "no sense"},
		{"1 / (x - x)", "no sense"},
		{"'a'", "no sense"},
		{"-'a'", "no sense"},
		{"'a' + 1", "no sense"},
		{"1 - 'a'", "no sense"},
		{"0 * 'a'", "no sense"},
		{"'a' * x", "no sense"},
		{"'a' / 2", "no sense"},
		{"2 / 'a'", "no sense"},
		{"sum{i in {a}} 'b'", "no sense"},
		{"sum{i in {a}} i", "no sense"},
		{"if 1 = 1 then 'a' else 1", "no sense"},
		{"y[x]", "no sense"},
		{"y[x - x + 2]", "0 y[2] 1"},
		{"y[3]", "no sense"},
		{"y", "no sense"},
		{"y['a', 2]", "no sense"},
		{"x[1]", "no sense"},
	} {
		if got := sum(t, ahead, c.text); got != c.want {
			t.Errorf("%s: %s, want %s", c.text, got, c.want)
		}
	}
}

func TestConditions(t *testing.T) {
	const ahead = "param p = 6; var x; "
	for _, c := range []said{
		{"p = 6", "1"}, {"p = 12 / 2", "1"}, {"p = 5", "0"}, {"p <> 6", "0"}, {"p <> 5", "1"},
		{"'a' = 'a'", "1"}, {"'a' = 'b'", "0"}, {"'a' <> 'b'", "1"}, {"'a' = p", "0"}, {"p <> 'p'", "1"},
		{"1 < 2", "1"}, {"2 < 2", "0"}, {"3 < 2", "0"},
		{"1 <= 2", "1"}, {"2 <= 2", "1"}, {"3 <= 2", "0"},
		{"1 >= 2", "0"}, {"2 >= 2", "1"}, {"3 >= 2", "1"},
		{"1 > 2", "0"}, {"2 > 2", "0"}, {"3 > 2", "1"},
		{"10 > 9", "1"}, {"-10 < -9", "1"}, {"1/3 < 0.34", "1"},
		{"not 1 = 1", "0"}, {"not not 1 = 1", "1"}, {"not 'a' = 'b'", "1"},
		{"1 = 1 or 1 / 0 = 1", "1"}, {"1 = 2 or 2 = 2", "1"}, {"1 = 2 or 2 = 3", "0"}, {"1 = 2 or 1 / 0 = 1", "no sense"}, {"1 / 0 = 1 or 1 = 1", "no sense"},
		{"1 = 2 and 1 / 0 = 1", "0"}, {"1 = 1 and 2 = 2", "1"}, {"1 = 1 and 2 = 3", "0"}, {"1 = 1 and 1 / 0 = 1", "no sense"}, {"1 / 0 = 1 and 1 = 2", "no sense"},
		{"1 = 1 or 1 = 1 and 1 = 2", "1"}, {"not 1 = 1 or 1 = 1", "1"}, {"not 1 = 2 and 1 = 2", "0"},
		{"x = 1", "no sense"}, {"1 <> x", "no sense"}, {"x < 1", "no sense"}, {"1 >= x", "no sense"}, {"x - x = 0", "1"}, {"0 * x <= x - x", "1"},
		{"'a' < 'b'", "no sense"}, {"'a' <= 1", "no sense"}, {"1 >= 'a'", "no sense"}, {"'a' > 'a'", "no sense"},
		{"unknown = 1", "no sense"},
	} {
		if got := sum(t, ahead, "if "+c.text+" then 1 else 0"); got != c.want {
			t.Errorf("if %s: %s, want %s", c.text, got, c.want)
		}
		if got := sum(t, ahead, "sum{k in {a} : "+c.text+"} 1"); got != c.want {
			t.Errorf("sum where %s: %s, want %s", c.text, got, c.want)
		}
	}
}

func TestLongNumbers(t *testing.T) {
	ahead, behind := strings.Repeat("9", api.MaxDigits), strings.Repeat("1", api.MaxPlaces)
	over := "/1" + strings.Repeat("0", api.MaxPlaces)
	check(t, []said{
		{"minimize z: " + ahead + "." + behind + ";", "least " + ahead + behind + over},
		{"minimize z: -" + ahead + "." + behind + ";", "least -" + ahead + behind + over},
		{"param p{i in {a}} : [a] -" + ahead + "." + behind + "; minimize z: p['a'];", "least -" + ahead + behind + over},
		{"param p{i in {a}} : default " + ahead + "; minimize z: p['a'];", "least " + ahead},
		{"set A = {-" + ahead + "}; minimize z: sum{i in A} (i + 1);", "least -" + ahead[1:] + "8"},
		{"var x{i in " + ahead + " - 1 .. " + ahead + "};", "least 0; x[" + ahead[1:] + "8] (-, -) 0; x[" + ahead + "] (-, -) 0"},
	})
}
