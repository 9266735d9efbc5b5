package tongue

import (
	"errors"
	"strings"
	"testing"

	"optima/api"
)

// expectFault reads a text in which `@` stands ahead of the place of the fault; it is taken out.
func expectFault(t *testing.T, marked string, want error) {
	t.Helper()
	at := strings.Index(marked, "@")
	text := marked[:at] + marked[at+1:]
	n, err := Read(text)
	var f *api.Fault
	if n != nil || !errors.As(err, &f) || f.At != at || f.Err != want {
		t.Errorf("%.90q: %s, %v at %d, want %v at %d", text, shown(n), err, placeOf(err), want, at)
	}
}

func TestNoToken(t *testing.T) {
	for _, marked := range []string{
		"@$", "@.", "@!", "@\"a\"", "@%", "@\x00", "@\v", "@\f", "@\xa0", "@\u00e9", "@\ufeffset A = {};",
		"set @\u00e9 = {};", "set a@\u00e9 = {};", "set A = {a@!};", "set A = @$", "@$ set", "set A = {}; # $\n @$", "set A = B; @\\",
		"param p = 1@.;", "param p = 1@. 5;", "param p = @.5;", "param p = 1.5@.5;", "param p = 1@.e5;", "param p = 1@.",
		"set A = 1..@.3;", "set A = 1..@.",
		"param p = @'a;", "param p = @'a", "param p = @'", "param p = @' a';", "param p = @'a ';", "param p = @'';", "param p = @'1';",
		"param p = @'a-b';", "param p = @'a\n';", "param p = @'#';", "param p = @'\u00e9';",
		"param p = 1 @& 2;", "param p = 1 @| 2;", "param p = 1 @^ 2;", "param p = a @?",
	} {
		expectFault(t, marked, api.ErrText)
	}
}

func TestWrongStatements(t *testing.T) {
	for _, marked := range []string{
		"set@", "set @", "set  # a\n@", "set A@", "set A =@", "set A = {}@", "set A = {} @", "set A = {} # ;@", "set A = {}; set@",
		"@;", "set A = {};@;", "@A = {};", "@1", "@in", "@'a'", "set A = {} @set B = {};",
		"set @set = {};", "set @1 = {};", "set @'a' = {};", "set @= {};", "set A@: {};", "set A @{i in B} = {};", "set A = @;", "set A @<= B;",
		"param @sum = 1;", "param p@;", "param p @: 1;", "param p @: [a] 1;", "param p{i in A}@;", "param p{i in A} @[a] 1;",
		"param p = @;", "param p = 1 @:", "param p{i in A} @default 1;", "param p = 1 @default 2;",
		"param p{i in A} : [@] 1;", "param p{i in A} : [a@;", "param p{i in A} : [a,@] 1;", "param p{i in A} : [a] @[b] 1;", "param p{i in A} : [a] 1 @2;",
		"param p{i in A} : @1;", "param p{i in A} : [a] 1@, [b] 2;", "param p{i in A} : [@'a'] 1;", "param p{i in A} : [@1.5] 1;", "param p{i in A} : [-@1.5] 1;",
		"param p{i in A} : [-@a] 1;", "param p{i in A} : [-@", "param p{i in A} : [@in] 1;", "param p{i in A} : [@..] 1;",
		"param p{i in A} : [a] @x;", "param p{i in A} : [a] @(1);", "param p{i in A} : [a] -@-1;", "param p{i in A} : [a] @+1;", "param p{i in A} : [a] 1@/2;", "param p{i in A} : [a] 1@+2;",
		"param p{i in A} : default @;", "param p{i in A} : default 1 @[a] 2;", "param p{i in A} : default 1 @default 2;", "param p{i in A} : default @x;",
		"var @;", "var x@, y;", "var x @= 1;", "var x <= 1 @>= 0;", "var x >= 0 @>= 1;", "var x >= 0 <= 1 @<= 2;", "var x >= 0 @integer;", "var x binary @>= 0;",
		"var x binary @integer;", "var x integer @binary;", "var x @[1];", "var x >= @;", "var x @> 0;",
		"minimize f @1;", "minimize f @{i in A}: 1;", "minimize @: 1;", "maximize f: @;", "maximize f: x @<= 1;",
		"subject r @x <= 1;", "subject r: x@;", "subject r: x @< 1;", "subject r: x @<> 1;", "subject r: x <= @;", "subject r: 1 <= x @>= 2;", "subject r: 1 >= x @<= 2;",
		"subject r: 1 <= x @= 2;", "subject r: 1 = x @= 2;", "subject r: 1 = x @<= 2;", "subject r: 1 <= x <= 2 @<= 3;", "subject r: 1 >= x >= 2 @>= 3;", "subject @sum: x = 1;",
	} {
		expectFault(t, marked, api.ErrText)
	}
}

func TestWrongSetsAndConditions(t *testing.T) {
	for _, marked := range []string{
		"set A = 1@;", "set A = 1 @union B;", "set A = (B)@;", "set A = b[1]@;", "set A = B + 1@;", "set A = -B@;", "set A = 1 .. @;", "set A = 1 .. 2 @.. 3;",
		"set A = B union @;", "set A = B @C;", "set A = @union B;", "set A = (@{});", "set A = B + @;",
		"set A = {@,};", "set A = {a,@};", "set A = {a @b};", "set A = {a @;", "set A = {@1.0};", "set A = {-@1.0};", "set A = {@set};", "set A = {@'a'};",
		"set A = {-@-1};", "set A = {@(1)};", "set A = {a@", "set A = {1 @.. 2};", "set A = {1 @+ 2};",
		"param p{@} = 1;", "param p{i@", "param p{i @= A} = 1;", "param p{i in A@;", "param p{i in A,@} = 1;", "param p{i in A :@} = 1;", "param p{i in A : i < j@, k in B} = 1;",
		"param p{i in A : i@} = 1;", "param p{@in in A} = 1;", "param p{@1 in A} = 1;", "param p{i in A : i < j@: i < j} = 1;", "param p{i in @} = 1;",
		"param p = if 1 @then 2 else 3;", "param p = if 1 < 2 @< 3 then 4 else 5;", "param p = if (1 @< 2) then 3 else 4;", "param p = if not @then 1 else 2;",
		"param p = if 1 < 2 and @then 3 else 4;", "param p = if 1 < 2 @else 3;", "param p = if 1 < 2 then 3@;", "param p = if 1 < 2 then 3 else @;",
		"param p = if (@not 1 < 2) then 3 else 4;", "param p = if 1 <=@= 2 then 3 else 4;", "param p = if 1 =@= 2 then 3 else 4;", "param p = if 1 @.. 2 then 3 else 4;", "param p = @not 1 < 2;",
	} {
		expectFault(t, marked, api.ErrText)
	}
}

func TestWrongExpressions(t *testing.T) {
	for _, marked := range []string{
		"param p = (1@;", "param p = (@);", "param p = 1 @);", "param p = 1 + @;", "param p = @+ 1;", "param p = 1 @2;", "param p = 1 @x;", "param p = x @'a';", "param p = 1 * @* 2;",
		"param p = 1@[1];", "param p = 'a'@[1];", "param p = (x)@[1];", "param p = x[1]@[2];", "param p = x[@];", "param p = x[1,@];", "param p = x[1@;", "param p = x[A @union B];",
		"param p = sum @x;", "param p = sum @(x);", "param p = sum{i in A}@;", "param p = sum{i in A} @+ 1;", "param p = sum{i in A} @{};", "param p = sum @[1];",
		"param p = -@;", "param p = @{1};", "param p = 1 @= 2;", "param p = @then;", "param p = x@(1);", "param p = 1@..2;",
	} {
		expectFault(t, marked, api.ErrText)
	}
}

func TestBounds(t *testing.T) {
	word := strings.Repeat("w", api.MaxWord+1)
	long := strings.Repeat("7", api.MaxDigits+1)
	places := strings.Repeat("0", api.MaxPlaces+1)
	for _, marked := range []string{
		"@" + word, "set @" + word, "set @" + word + " = {};", "set A = {@" + word + "};", "@" + strings.Repeat("set", 30), "set @" + strings.Repeat("w", 5000) + "$",
		"param p = '@" + word + "';", "param p = '@" + word + ";", "param p = '@" + word, "param p = '@" + word + "$'",
		"param p = @" + long + ";", "param p = @" + long + ".5;", "param p = @" + long + ".", "param p = 1 + @1." + places + ";", "param p = @" + long + "." + places + ";", "set A = {@" + long + "};", "set A = {-@" + long + "};",
		"param p = @0" + long[1:] + ";", "@" + long, "@1." + places,
		// what is looked at already is told, though it can't stand there either
		"param p = 1 @" + word + ";", "set A = {} @" + long, "set A = B '@" + word, "set A = {@1." + places + "};", "set A = {}; @" + word, "param p = x[@" + long + "[", "set A @" + word,
	} {
		expectFault(t, marked, api.ErrBound)
	}
	for _, marked := range []string{ // not looked at yet: the token ahead of it is not taken
		"set @set " + word, "set @= " + long, "set A = {a @b " + word, "param p = 1 @) '" + word, "@; " + word, "set A = {@1.5 " + word,
		"set A = @$" + word, "param p = @'a " + word,
	} {
		expectFault(t, marked, api.ErrText)
	}
	if _, err := Read("set A = B;" + strings.Repeat(" ", api.MaxText-10)); err != nil {
		t.Error(err)
	}
	for _, text := range []string{strings.Repeat(" ", api.MaxText+1), strings.Repeat("$", api.MaxText+1), "#" + strings.Repeat("x", 3*api.MaxText)} {
		if n, err := Read(text); n != nil || !errors.Is(err, api.ErrBound) || placeOf(err) != api.MaxText {
			t.Errorf("%d bytes: %v at %d", len(text), err, placeOf(err))
		}
	}
}

// TestNest holds, for each thing that opens, as many open as may be, and one more.
func TestNest(t *testing.T) {
	for _, c := range []struct {
		head, ahead, open, tail, last, end string // head, then ahead and open and again, last, tail and again, end
		most                               int    // how often
	}{
		{"", "", "(", ")", "1", "", api.MaxNest},
		{"", "", "-", "", "1", "", api.MaxNest},
		{"", "x", "[", "]", "1", "", api.MaxNest},
		{"", "y * x", "[", ", 2]", "1", "", api.MaxNest},
		{"if ", "", "not ", "", "1 < 2", " then 3 else 4", api.MaxNest - 1},
		{"", "", "if ", " = 1 then 2 else 3", "0", "", api.MaxNest},
		{"", "", "if 1 = 1 then ", " else 3", "0", "", api.MaxNest},
		{"", "", "if 1 = 1 then 2 else 3 + ", "", "0", "", api.MaxNest},
		{"", "sum", "{i in A} ", "", "1", "", api.MaxNest - 1}, // the brace within the last one is open too
		{"", "", "sum{i in A : x < ", "} 1", "1", "", api.MaxNest / 2},
		{"", "", "sum{i in ", " .. 2} 1", "1", "", api.MaxNest / 2},
	} {
		text := func(n int) string {
			return "param p = " + c.head + strings.Repeat(c.ahead+c.open, n) + c.last + strings.Repeat(c.tail, n) + c.end + ";"
		}
		if _, err := Read(text(c.most)); err != nil {
			t.Errorf("%q: %v at %d", text(c.most), err, placeOf(err))
		}
		at := len("param p = "+c.head) + len(c.ahead+c.open)*c.most + len(c.ahead)
		over := text(c.most + 1)
		expectFault(t, over[:at]+"@"+over[at:], api.ErrBound)
	}
}

// TestClosed: what has ended is open no more, and other signs of the same form open nothing.
func TestClosed(t *testing.T) {
	deep := strings.Repeat("(", api.MaxNest-1)
	for _, part := range []string{"-1", "(1)", "x[1]", "sum{i in A} 1", "(if 1 < 2 then 3 else 4)", "-x[-1]"} {
		mustRead(t, "param p = "+part+strings.Repeat(" - "+part, 200)+";")
		mustRead(t, "param p = "+part+strings.Repeat(" / ("+part+")", 200)+";")
	}
	mustRead(t, "param p = if not 1 = 2"+strings.Repeat(" or not 1 = 2 and not 1 = 2", 200)+" then 3 else 4;")
	mustRead(t, "param p{i in A} = 1;"+strings.Repeat("param p{i in A} : [-1] -1 [-2] -2 default -3;", 200))
	within := strings.Repeat("(", api.MaxNest-2)
	mustRead(t, "param p = "+within+"sum{i in {a, -1} union {}, j in {-1} : 1 - 1 < 2} 1 - 1"+strings.Repeat(")", api.MaxNest-2)+";")
	expectFault(t, "param p = "+within+"sum{i in {a, -1} union {}, j in @-1 .. 1} 1", api.ErrBound)
	mustRead(t, "param p = "+deep+"-1 - -1 * -1 + x[1]"+strings.Repeat(")", api.MaxNest-1)+";")
}

func TestNestAndOtherFaults(t *testing.T) {
	word := strings.Repeat("w", api.MaxWord+1)
	full := "param p = " + strings.Repeat("(", api.MaxNest)
	for _, marked := range []string{
		full + "@(" + word, full + "@-$", full + "@sum x", full + "@if", full + "x@[]", full + "x@[" + word, full + "1 + @(", full + "1 * @-1", full + "@" + word,
		"param p = " + strings.Repeat("(", api.MaxNest-1) + "sum@{" + word, "param p = " + strings.Repeat("(", api.MaxNest-1) + "if @not" + "$",
	} {
		expectFault(t, marked, api.ErrBound)
	}
	for _, marked := range []string{ // what can't stand there is not one too many
		full + "1@(", full + "1 @sum{i in A}", full + "1 @if", full + "1@[", full + "@{i in A}", full + "@not", full + "@[", full + "1 @not", full + "@+", full + "@)", full + "@",
		"param p = " + strings.Repeat("(", api.MaxNest-1) + "sum @x", "param p = " + strings.Repeat("(", api.MaxNest-1) + "sum @(x",
	} {
		expectFault(t, marked, api.ErrText)
	}
}
