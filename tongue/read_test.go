package tongue

import (
	"errors"
	"strings"
	"testing"

	"optima/api"
)

// shown is a tree in brackets: kinds by short words, then the node's Word.
func shown(n *api.Node) string {
	if n == nil {
		return "nil"
	}
	short := strings.Fields("- T set par dat e var int bin min max le ge eq X g I i R U N M or and not < <= = <> >= > # ' n at S if + sub * / neg")
	s := "?"
	if n.Kind >= 0 && n.Kind < len(short) {
		s = short[n.Kind]
	}
	if n.Word != "" {
		s += ":" + n.Word
	}
	if len(n.Kids) == 0 {
		return s
	}
	kids := make([]string, 0, len(n.Kids))
	for _, kid := range n.Kids {
		kids = append(kids, shown(kid))
	}
	return s + "(" + strings.Join(kids, " ") + ")"
}

func mustRead(t *testing.T, text string) *api.Node {
	t.Helper()
	n, err := Read(text)
	if err != nil {
		t.Fatalf("%.80q: %v at %d", text, err, placeOf(err))
	}
	return n
}

// placeOf is a Fault's place; -1 of another error.
func placeOf(err error) int {
	var f *api.Fault
	if errors.As(err, &f) {
		return f.At
	}
	return -1
}

// expectTrees holds the tree of each text against the one that stands behind it.
func expectTrees(t *testing.T, cases [][2]string) {
	t.Helper()
	for _, c := range cases {
		n, err := Read(c[0])
		if err != nil || shown(n) != c[1] {
			t.Errorf("%.80q: %v at %d\n got %.300s\nwant %.300s", c[0], err, placeOf(err), shown(n), c[1])
		}
	}
}

func TestTokens(t *testing.T) {
	word := strings.Repeat("w", api.MaxWord-1) + "9"
	expectTrees(t, [][2]string{
		{"", "T"},
		{" \t\r\n", "T"},
		{"# nothing", "T"},
		{"#", "T"},
		{"# set A = {};\n", "T"},
		{"#a\r#b\n#c", "T"},
		{"# a\rset A = B;\n", "T"},
		{"# a\r\nset A = B;\r\n", "T(set:A(n:B))"},
		{"# \xff\x00 '$ \u00e9\nset A = B;#x", "T(set:A(n:B))"},
		{"set#a\nA#b\n=#c # d\nB#e\n;", "T(set:A(n:B))"},
		{"\r\n\tset\tA\r=\nB ; ", "T(set:A(n:B))"},
		{"set _ = _a_1;", "T(set:_(n:_a_1))"},
		{"set Set = IN;", "T(set:Set(n:IN))"},
		{"set sets = _set;", "T(set:sets(n:_set))"},
		{"set set1 = T2b;", "T(set:set1(n:T2b))"},
		{"set azAZ_09 = B;", "T(set:azAZ_09(n:B))"},
		{"set " + word + " = B;", "T(set:" + word + "(n:B))"},
		{"param p = '" + word + "';", "T(par:p(X ':" + word + "))"},
		{"param p = 'set';", "T(par:p(X ':set))"},
		{"param p = '_';", "T(par:p(X ':_))"},
		{"set A=1..3;", "T(set:A(R(#:1 #:3)))"},
		{"set A=1.5..3.5;", "T(set:A(R(#:3/2 #:7/2)))"},
		{"set A=1.. 3;", "T(set:A(R(#:1 #:3)))"},
		{"set A=x..y;", "T(set:A(R(n:x n:y)))"},
		{"set A=x1..2;", "T(set:A(R(n:x1 #:2)))"},
		{"set A=0..1union{};", "T(set:A(U(R(#:0 #:1) I)))"},
		{"param p=if 1<2then 3else 4;", "T(par:p(X if(<(#:1 #:2) #:3 #:4)))"},
		{"param p=if'a'<>'b'then-3else-4;", "T(par:p(X if(<>(':a ':b) neg(#:3) neg(#:4))))"},
		{"param p=1--1;", "T(par:p(X sub(#:1 neg(#:1))))"},
		{"param p=1---1;", "T(par:p(X sub(#:1 neg(neg(#:1)))))"},
		{"param p=1*-1/-x;", "T(par:p(X /(*(#:1 neg(#:1)) neg(n:x))))"},
		{"var x>=0<=4;", "T(var:x(X #:0 #:4))"},
		{"var x>=-1<=-0;", "T(var:x(X neg(#:1) neg(#:0)))"},
	})
}

func TestNumbers(t *testing.T) {
	full, nines := strings.Repeat("9", api.MaxDigits), strings.Repeat("9", api.MaxPlaces)
	zeros := strings.Repeat("0", api.MaxPlaces)
	for text, want := range map[string]string{
		"0":                    "0",
		"0.0":                  "0",
		"007.500":              "15/2",
		"2.00":                 "2",
		"0.1":                  "1/10",
		full:                   full,
		full + "." + zeros:     full,
		"0." + zeros[1:] + "1": "1/1" + zeros,
		full + "." + nines:     full + nines + "/1" + zeros,
	} {
		signed := "-" + want
		if want == "0" {
			signed = want
		}
		expectTrees(t, [][2]string{
			{"param p = " + text + ";", "T(par:p(X #:" + want + "))"},
			{"param p = -" + text + ";", "T(par:p(X neg(#:" + want + ")))"},
			{"param p{i in A}: [a]" + text + "[b]-" + text + ";", "T(dat:p(X(g:i(n:A) -) e(i:a #:" + want + ") e(i:b #:" + signed + ")))"},
			{"param p{i in A}: default - " + text + ";", "T(dat:p(X(g:i(n:A) -) #:" + signed + "))"},
		})
		if !strings.Contains(text, ".") {
			expectTrees(t, [][2]string{{"set A = {" + text + ", - " + text + "};", "T(set:A(I(i:" + want + " i:" + signed + ")))"}})
		}
	}
}

func TestStatements(t *testing.T) {
	expectTrees(t, [][2]string{
		{"set A = {};", "T(set:A(I))"},
		{"set A = {a}; set A = {a, a, 1, -1};", "T(set:A(I(i:a)) set:A(I(i:a i:a i:1 i:-1)))"},
		{"set A = {-00, 00};", "T(set:A(I(i:0 i:0)))"},
		{"param p = 1;", "T(par:p(X #:1))"},
		{"param p{i in A} = i;", "T(par:p(X(g:i(n:A) -) n:i))"},
		{"param p{i in A} : ;", "T(dat:p(X(g:i(n:A) -)))"},
		{"param p{i in A} : default 3;", "T(dat:p(X(g:i(n:A) -) #:3))"},
		{"param p{i in A, j in B : i < j} : [a, -1] -2.5 [3, b] 0 default -1;", "T(dat:p(X(g:i(n:A) g:j(n:B) <(n:i n:j)) e(i:a i:-1 #:-5/2) e(i:3 i:b #:0) #:-1))"},
		{"var x;", "T(var:x(X - -))"},
		{"var x >= 1;", "T(var:x(X #:1 -))"},
		{"var x <= 1;", "T(var:x(X - #:1))"},
		{"var x integer;", "T(int:x(X - -))"},
		{"var x{i in A} integer >= i <= i + 1;", "T(int:x(X(g:i(n:A) -) n:i +(n:i #:1)))"},
		{"var x binary;", "T(bin:x(X - -))"},
		{"var x{i in A} binary;", "T(bin:x(X(g:i(n:A) -) - -))"},
		{"minimize f: 0;", "T(min:f(#:0))"},
		{"maximize f: x + y;", "T(max:f(+(n:x n:y)))"},
		{"subject r: x <= 1;", "T(le:r(X n:x #:1))"},
		{"subject r: 0 <= x <= 1;", "T(le:r(X #:0 n:x #:1))"},
		{"subject r: x >= 1;", "T(ge:r(X n:x #:1))"},
		{"subject r: 1 >= x >= 0;", "T(ge:r(X #:1 n:x #:0))"},
		{"subject r{i in A}: x[i] = y[i];", "T(eq:r(X(g:i(n:A) -) at:x(n:i) at:y(n:i)))"},
	})
}

func TestSetsAndConditions(t *testing.T) {
	expectTrees(t, [][2]string{
		{"set A = A minus B union C inter D;", "T(set:A(N(U(M(n:A n:B) n:C) n:D)))"},
		{"set A = 1 .. 2 union 3 .. 4;", "T(set:A(U(R(#:1 #:2) R(#:3 #:4))))"},
		{"set A = B union n .. n * 2 minus {n};", "T(set:A(M(U(n:B R(n:n *(n:n #:2))) I(i:n))))"},
		{"set A = b[1] .. c;", "T(set:A(R(at:b(#:1) n:c)))"},
		{"set A = b + 1 .. c;", "T(set:A(R(+(n:b #:1) n:c)))"},
		{"set A = (b) .. (c);", "T(set:A(R(n:b n:c)))"},
		{"set A = -1 .. sum{i in B} i;", "T(set:A(R(neg(#:1) S(X(g:i(n:B) -) n:i))))"},
		{"set A = 'a' .. if 1 = 1 then 2 else 3 union B;", "T(set:A(U(R(':a if(=(#:1 #:1) #:2 #:3)) n:B)))"},
		{"param p{i in A, j in {i} minus B, k in i .. j : i < j} = 0;", "T(par:p(X(g:i(n:A) g:j(M(I(i:i) n:B)) g:k(R(n:i n:j)) <(n:i n:j)) #:0))"},
		{"param p{i in A : 1 < 2 or 1 <= 2 or 1 = 2} = 0;", "T(par:p(X(g:i(n:A) or(or(<(#:1 #:2) <=(#:1 #:2)) =(#:1 #:2))) #:0))"},
		{"param p{i in A : 1 <> 2 and 1 >= 2 and 1 > 2} = 0;", "T(par:p(X(g:i(n:A) and(and(<>(#:1 #:2) >=(#:1 #:2)) >(#:1 #:2))) #:0))"},
		{"param p{i in A : a = b and c = d or e = f and g = h} = 0;", "T(par:p(X(g:i(n:A) or(and(=(n:a n:b) =(n:c n:d)) and(=(n:e n:f) =(n:g n:h)))) #:0))"},
		{"param p{i in A : not not a = b and not c + 1 = d or e = f} = 0;", "T(par:p(X(g:i(n:A) or(and(not(not(=(n:a n:b))) not(=(+(n:c #:1) n:d))) =(n:e n:f))) #:0))"},
		{"param p{i in A : if a < b then c else d < e and f < g} = 0;", "T(par:p(X(g:i(n:A) and(<(if(<(n:a n:b) n:c n:d) n:e) <(n:f n:g))) #:0))"},
	})
}

func TestExpressions(t *testing.T) {
	for text, want := range map[string]string{
		"a - b - c":                       "sub(sub(n:a n:b) n:c)",
		"a - (b - c)":                     "sub(n:a sub(n:b n:c))",
		"a / b / c * d":                   "*(/(/(n:a n:b) n:c) n:d)",
		"a + b * c - d / e":               "sub(+(n:a *(n:b n:c)) /(n:d n:e))",
		"(a + b) * c":                     "*(+(n:a n:b) n:c)",
		"((a))":                           "n:a",
		"(a)[1]":                          "",
		"-a * b":                          "*(neg(n:a) n:b)",
		"-(a * b)":                        "neg(*(n:a n:b))",
		"- - a":                           "neg(neg(n:a))",
		"a[b[c], -1, 'd']":                "at:a(at:b(n:c) neg(#:1) ':d)",
		"sum{i in A} i * 2 + 1":           "+(S(X(g:i(n:A) -) *(n:i #:2)) #:1)",
		"(sum{i in A} i) * 2":             "*(S(X(g:i(n:A) -) n:i) #:2)",
		"2 * sum{i in A} i * 2 - 1":       "sub(*(#:2 S(X(g:i(n:A) -) *(n:i #:2))) #:1)",
		"sum{i in A} sum{j in B} -i / j":  "S(X(g:i(n:A) -) S(X(g:j(n:B) -) /(neg(n:i) n:j)))",
		"-sum{i in A} i * 2":              "neg(S(X(g:i(n:A) -) *(n:i #:2)))",
		"if a < b then c else d + e":      "if(<(n:a n:b) n:c +(n:d n:e))",
		"1 + if a < b then c else d * e":  "+(#:1 if(<(n:a n:b) n:c *(n:d n:e)))",
		"1 * -if a < b then c else d - e": "*(#:1 neg(if(<(n:a n:b) n:c sub(n:d n:e))))",
		"(if a < b then c else d) + e":    "+(if(<(n:a n:b) n:c n:d) n:e)",
		"if a < b then if c < d then 1 else 2 else if e < f then 3 else 4": "if(<(n:a n:b) if(<(n:c n:d) #:1 #:2) if(<(n:e n:f) #:3 #:4))",
	} {
		n, err := Read("minimize f: " + text + ";")
		if want == "" {
			if err == nil {
				t.Errorf("%q: %s", text, shown(n))
			}
		} else if err != nil || shown(n) != "T(min:f("+want+"))" {
			t.Errorf("%q: %v\n got %s\nwant %s", text, err, shown(n), want)
		}
	}
}

// TestNewMemory: what is written into one node shows in no other one.
func TestNewMemory(t *testing.T) {
	text := "var x; var y integer; var z binary; param p{i in A}: [a] 1; subject r: x = y; set A = {};"
	seen := map[*api.Node]bool{}
	var walk func(n *api.Node)
	walk = func(n *api.Node) {
		if seen[n] {
			t.Errorf("%s stands there twice", shown(n))
		}
		seen[n] = true
		for _, kid := range n.Kids {
			walk(kid)
		}
	}
	walk(mustRead(t, text))
	walk(mustRead(t, text))
}
