package linear

import (
	"strconv"
	"strings"
	"testing"

	"optima/api"
)

// items are so many words, with commas between.
func items(count int) string {
	var out []string
	for i := range count {
		out = append(out, "w"+strconv.Itoa(i))
	}
	return strings.Join(out, ", ")
}

func TestMostMembers(t *testing.T) {
	most, more := strconv.Itoa(api.MaxSet), strconv.Itoa(api.MaxSet+1)
	for _, c := range []said{
		{"set A = 1 .. " + most, "200"},
		{"set A = 1 .. " + more, ""},
		{"set A = 1 .. 1" + strings.Repeat("0", 100), ""},
		{"set A = 1" + strings.Repeat("0", 100) + " .. 1" + strings.Repeat("0", 97) + "199", "200"},
		{"set A = 1" + strings.Repeat("0", 100) + " .. 1" + strings.Repeat("0", 97) + "200", ""},
		{"set A = -99 .. 100", "200"},
		{"set A = -100 .. 100", ""},
		{"set A = {" + items(api.MaxSet) + "}", "200"},
		{"set A = {" + items(api.MaxSet+1) + "}", ""},
		{"set A = {" + items(api.MaxSet) + ", w0, w1}", "200"}, // each counts once
		{"set A = 1 .. 100 union 51 .. 200", "200"},
		{"set A = 1 .. 100 union 51 .. 201", ""},
		{"set A = 1 .. 200 union {a} minus {a}", ""}, // what comes on the way is a set too
		{"set A = 1 .. 201 inter {a}", ""},
		{"set A = {a} inter 1 .. 201", ""},
		{"set A = 1 .. 200 inter 1 .. 200 union 1 .. 200", "200"},
	} {
		text := c.text + "; minimize z: sum{i in A} 1;"
		want := "least " + c.want
		if c.want == "" {
			want = "no sense at 0"
		}
		check(t, []said{{text, want}})
	}
}

func TestMostSteps(t *testing.T) {
	if api.MaxSteps != 20000 {
		t.Fatal("the numbers below are for 20000 steps")
	}
	check(t, []said{
		{"minimize z: sum{i in 1 .. 100, j in 1 .. 199} 1;", "least 19900"},
		{"minimize z: sum{i in 1 .. 100, j in 1 .. 199 : i < 0} 1;", "least 0"},
		{"minimize z: (sum{i in 1 .. 100, j in 1 .. 199} 1) + sum{k in {}} 1;", "least 19900"},
		{"minimize z: (sum{i in 1 .. 100, j in 1 .. 199} 1) + sum{k in {a}} 1;", "no sense at 0"},
		{"minimize z: (sum{i in 1 .. 100, j in 1 .. 199 : i < 0} 1) + sum{k in {a}} 1;", "no sense at 0"}, // those that are left out are gone through
		{"minimize z: sum{i in 1 .. 100} sum{j in 1 .. 199} 1;", "least 19900"},
		{"minimize z: sum{i in 1 .. 101} sum{j in 1 .. 199} 1;", "no sense at 0"},
		{"minimize z: sum{i in 1 .. 199, j in 1 .. 100} 1;", "no sense at 0"}, // the slow one counts too
		{"minimize z: sum{i in 1 .. 100 : (sum{j in 1 .. 199} 1) > 0} 1;", "least 100"},
		{"minimize z: sum{i in 1 .. 101 : (sum{j in 1 .. 199} 1) > 0} 1;", "no sense at 0"},
		{"param p{i in 1 .. 100, j in 1 .. 199} = i; minimize z: sum{i in 1 .. 100, j in 1 .. 199} p[i, j];", "least 1004950"}, // each statement from 0 on
		{"param p{i in 1 .. 101, j in 1 .. 199} = i;", "no sense at 0"},
		{"param p{i in 1 .. 100, j in 1 .. 199} : [1, 1] 5 default 1; minimize z: p[1, 1] + p[100, 199];", "least 6"}, // it is gone through once
		{"param p{i in 1 .. 101, j in 1 .. 199} : default 1;", "no sense at 0"},
		{"var x{i in 1 .. 101, j in 1 .. 199 : i = j};", "no sense at 0"},
		{"subject r{i in 1 .. 101, j in 1 .. 199 : i = j and i < 3}: 1 <= 2;", "no sense at 0"},
		{"subject r{i in 1 .. 100, j in 1 .. 199 : i = j and i < 3}: 1 <= 2;", "least 0; r[1,1]: (-, 1); r[2,2]: (-, 1)"},
		{"set A = sum{i in 1 .. 100, j in 1 .. 199} 1 .. 19900; minimize z: sum{i in A} i;", "least 19900"},
		{"set A = sum{i in 1 .. 101, j in 1 .. 199} 1 .. 19900;", "no sense at 0"},
		{"param a = sum{i in 1 .. 199, j in 1 .. 99} 1; param b = sum{i in 1 .. 199, j in 1 .. 99} 1; minimize z: a + b;", "least 39402"},
	})
	p, err := Expand(tree(t, "var x{i in 1 .. 100, j in 1 .. 199 : i = j};"))
	if err != nil || len(p.Cols) != 100 {
		t.Errorf("a column for each of 100 rows: %v", err)
	}
}

func TestMostDigits(t *testing.T) {
	if api.MaxBig != 1000 {
		t.Fatal("the numbers below are for 1000 digits")
	}
	zeros := func(count int) string { return strings.Repeat("0", count) }
	// a is 10^250; e is 10^999, the first number of 1000 digits.
	ahead := "param a = 1" + zeros(250) + "; param e = a * a * a * 1" + zeros(249) + "; var x; "
	large := "1" + zeros(999)
	for _, c := range []said{
		{"e", large},
		{"-e", "-" + large},
		{"1 / e", "1/" + large},
		{"-1 / e", "-1/" + large},
		{"e * 9", "9" + zeros(999)},
		{"e * 10", "no sense"},
		{"e * -10", "no sense"},
		{"-e * 10", "no sense"},
		{"1 / e / 9", "1/9" + zeros(999)},
		{"1 / e / 10", "no sense"},
		{"1 / e * (1 / 10)", "no sense"},
		{"1 / (e * 10)", "no sense"},
		{"e / (1 / 10)", "no sense"},
		{"e / (1 / 9)", "9" + zeros(999)},
		{"e * 10 / 10", "no sense"}, // it is too long on the way
		{"e * 0 * 10", "0"},
		{"9 * e + (e - 1)", strings.Repeat("9", 1000)},
		{"9 * e + e", "no sense"},
		{"-9 * e - e", "no sense"},
		{"-9 * e - (e - 1)", "-" + strings.Repeat("9", 1000)},
		{"9 * e - -e", "no sense"},
		{"1 / e + 1 / (e + 1)", "no sense"},
		{"1 / e - 1 / (e + 1)", "no sense"},
		{"sum{i in 1 .. 9} e", "9" + zeros(999)},
		{"sum{i in 1 .. 10} e", "no sense"},
		{"sum{i in {5, 5, 4}} i * e", "9" + zeros(999)},
		{"sum{i in {5, 6, -4}} i * e", "no sense"},
		{"sum{i in {-5, -6, 4}} i * e", "no sense"},
		{"e * x", "0 x " + large},
		{"x * 9 * e", "0 x 9" + zeros(999)},
		{"x * 10 * e", "no sense"},
		{"e * x * 10", "no sense"},
		{"x / e / 10", "no sense"},
		{"5 * e * x + 5 * e * x", "no sense"},
		{"-5 * e * x - 5 * e * x", "no sense"},
		{"5 * e * x - 5 * e * x + 1", "1"},
		{"sum{i in 1 .. 10} e * x", "no sense"},
		{"sum{i in 1 .. 9} -e * x", "0 x -9" + zeros(999)},
		{"if e = e and e > e - 1 then 1 else 2", "1"},
	} {
		if got := sum(t, ahead, c.text); got != c.want {
			t.Errorf("%s: %.50s, want %.50s", c.text, got, c.want)
		}
	}
	check(t, []said{
		{ahead + "set A = 9 * e + (e - 2) .. 9 * e + (e - 1); minimize z: sum{i in A : i < 0} 1;", "least 0; x (-, -) 0"},
		{ahead + "param p = 9 * e; var y >= p * 2;", "no sense at 4"},
		// A row's bound is no sum of the text: only what `+ - * /` and sums make is held to the digits.
		{ahead + "subject r: x + 9 * e <= -9 * e;", "least 0; x (-, -) 0; r: 1*0 (-, -18" + zeros(999) + ")"},
		{ahead + "subject r: 9 * e * x <= -9 * e * x;", "least 0; x (-, -) 0; r: 18" + zeros(999) + "*0 (-, 0)"},
	})
}
