package ratio

import (
	"errors"
	"math/big"
	"reflect"
	"regexp"
	"strings"
	"testing"

	"optima/api"
)

func mustRead(t *testing.T, text string) R {
	t.Helper()
	r, err := Read(text)
	if err != nil {
		t.Fatalf("%q: %v", text, err)
	}
	return r
}

func TestRead(t *testing.T) {
	full := strings.Repeat("9", api.MaxDigits)
	zeros := strings.Repeat("0", api.MaxDigits-1)
	sixty := strings.Repeat("0", api.MaxExp)
	for _, c := range []struct{ text, want string }{
		{"0", "0"},
		{"-0", "0"},
		{"-0.00", "0"},
		{"-0/5", "0"},
		{"0e60", "0"},
		{"-0e-60", "0"},
		{"007", "7"},
		{"-12", "-12"},
		{"6/4", "3/2"},
		{"-6/4", "-3/2"},
		{"6/3", "2"},
		{"06/04", "3/2"},
		{"0.1", "1/10"},
		{"2.50", "5/2"},
		{"2.00", "2"},
		{"-1.50e-2", "-3/200"},
		{"1.5e+1", "15"},
		{"1.5e1", "15"},
		{"1.25e1", "25/2"},
		{"12e-1", "6/5"},
		{"1e0", "1"},
		{"1e-0", "1"},
		{"1e+00", "1"},
		{"1e60", "1" + sixty},
		{"1e+60", "1" + sixty},
		{"-1e-60", "-1/1" + sixty},
		{"1e00060", "1" + sixty},
		{"7e" + zeros + "2", "700"},
		{full, full},
		{"-" + full + "/1", "-" + full},
		{"1/" + full, "1/" + full},
		{full + "/" + full, "1"},
		{"3/" + zeros + "6", "1/2"},
		{"0." + zeros + "1", "1/1" + zeros + "0"},
		{full + "." + strings.Repeat("0", api.MaxDigits), full},
	} {
		if r, err := Read(c.text); err != nil || r.Text() != c.want {
			t.Errorf("%.30q: %.40q, %v, want %.40q", c.text, r.Text(), err, c.want)
		}
	}
}

func TestReadWrong(t *testing.T) {
	full := strings.Repeat("7", api.MaxDigits)
	long := full + "7"
	for _, c := range []struct {
		text string
		at   int
		err  error
	}{
		{"", 0, api.ErrText},
		{"-", 1, api.ErrText},
		{"--1", 1, api.ErrText},
		{"+1", 0, api.ErrText},
		{" 1", 0, api.ErrText},
		{"1 ", 1, api.ErrText},
		{".5", 0, api.ErrText},
		{"-.5", 1, api.ErrText},
		{"1.", 2, api.ErrText},
		{"1.e5", 2, api.ErrText},
		{"1.2.3", 3, api.ErrText},
		{"1.-2", 2, api.ErrText},
		{"1.2/3", 3, api.ErrText},
		{"1/", 2, api.ErrText},
		{"1/-2", 2, api.ErrText},
		{"1/+2", 2, api.ErrText},
		{"1//2", 2, api.ErrText},
		{"1/2/3", 3, api.ErrText},
		{"1/2.5", 3, api.ErrText},
		{"1/2e5", 3, api.ErrText},
		{"/2", 0, api.ErrText},
		{"e5", 0, api.ErrText},
		{"1e", 2, api.ErrText},
		{"1E5", 1, api.ErrText},
		{"1e+", 3, api.ErrText},
		{"1e-", 3, api.ErrText},
		{"1e+-5", 3, api.ErrText},
		{"1e-+5", 3, api.ErrText},
		{"1e5.0", 3, api.ErrText},
		{"1e5/2", 3, api.ErrText},
		{"1e5e5", 3, api.ErrText},
		{"1e5x", 3, api.ErrText},
		{"1_0", 1, api.ErrText},
		{"0x1", 1, api.ErrText},
		{"1\x00", 1, api.ErrText},
		{"\xff", 0, api.ErrText},
		{"1\u0663", 1, api.ErrText},
		{"Inf", 0, api.ErrText},
		{long, api.MaxDigits, api.ErrBound},
		{"-" + long, api.MaxDigits + 1, api.ErrBound},
		{"1/" + long, api.MaxDigits + 2, api.ErrBound},
		{"1." + long, api.MaxDigits + 2, api.ErrBound},
		{"1e" + long, api.MaxDigits + 2, api.ErrBound},
		{"1e-" + long, api.MaxDigits + 3, api.ErrBound},
		{strings.Repeat("0", api.MaxDigits+1), api.MaxDigits, api.ErrBound},
		{"1/" + strings.Repeat("0", api.MaxDigits+1), api.MaxDigits + 2, api.ErrBound},
		{"1e" + strings.Repeat("0", api.MaxDigits+1), api.MaxDigits + 2, api.ErrBound},
		{full + "x", api.MaxDigits, api.ErrText},
		{long + "x", api.MaxDigits, api.ErrBound},
		{long + "/0", api.MaxDigits, api.ErrBound},
		{full + "/0", api.MaxDigits + 1, api.ErrZero},
		{full + "." + full + "e" + full, 2*api.MaxDigits + 2, api.ErrBound},
		{strings.Repeat("1", 100000), api.MaxDigits, api.ErrBound},
		{"1e61", 2, api.ErrBound},
		{"1e+61", 3, api.ErrBound},
		{"1e-61", 3, api.ErrBound},
		{"1e-061", 3, api.ErrBound},
		{"0e61", 2, api.ErrBound},
		{"0.0e-61", 5, api.ErrBound},
		{"1e9223372036854775808", 2, api.ErrBound},
		{"1e18446744073709551616", 2, api.ErrBound},
		{"1e61x", 4, api.ErrText},
		{"1e" + full, 2, api.ErrBound},
		{"1/0", 2, api.ErrZero},
		{"-1/00", 3, api.ErrZero},
		{"0/0", 2, api.ErrZero},
		{"1/0x", 3, api.ErrText},
		{"1/0.5", 3, api.ErrText},
	} {
		expectFault(t, c.text, c.at, c.err)
	}
}

func expectFault(t *testing.T, text string, at int, want error) {
	t.Helper()
	r, err := Read(text)
	var fault *api.Fault
	if !errors.As(err, &fault) || !errors.Is(err, want) || fault.At != at || !reflect.DeepEqual(r, R{}) {
		t.Errorf("%.20q: %q, %v, want %v at %d", text, r.Text(), err, want, at)
	}
}

// The whole grammar, and what may stand ahead of more, as patterns.
var (
	wholeForm = regexp.MustCompile(`^(-?)(\d+)(?:/(\d+)|(?:\.(\d+))?(?:e([+-]?\d+))?)$`)
	startForm = regexp.MustCompile(`^-?(\d+(/\d*|\.\d*|(\.\d+)?e[+-]?\d*)?)?$`)
)

// TestReadAllShort: each text of up to 6 of the bytes that matter.
func TestReadAllShort(t *testing.T) {
	const bytes = "-+02./ex"
	texts := []string{""}
	for range 6 {
		var longer []string
		for _, text := range texts {
			checkRead(t, text)
			for i := range len(bytes) {
				longer = append(longer, text+bytes[i:i+1])
			}
		}
		texts = longer
	}
	for _, text := range texts {
		checkRead(t, text)
	}
}

func checkRead(t *testing.T, text string) {
	t.Helper()
	m := wholeForm.FindStringSubmatch(text)
	if m == nil {
		at := len(text)
		for !startForm.MatchString(text[:at]) {
			at--
		}
		expectFault(t, text, at, api.ErrText)
		return
	}
	exp := integer(m[5])
	if new(big.Int).Abs(exp).Cmp(big.NewInt(api.MaxExp)) > 0 {
		expectFault(t, text, strings.LastIndexAny(text, "e+-")+1, api.ErrBound)
		return
	}
	if m[3] != "" && integer(m[3]).Sign() == 0 {
		expectFault(t, text, strings.Index(text, "/")+1, api.ErrZero)
		return
	}
	r, err := Read(text)
	if err != nil {
		t.Errorf("%q: %v", text, err)
	}
	expect(t, text, r, worth(m, exp))
}

func integer(digits string) *big.Int {
	n, _ := new(big.Int).SetString("0"+strings.TrimLeft(digits, "+-"), 10)
	if strings.HasPrefix(digits, "-") {
		n.Neg(n)
	}
	return n
}

func worth(m []string, exp *big.Int) *big.Rat {
	x := new(big.Rat).SetInt(integer(m[1] + m[2] + m[4]))
	down := big.NewInt(int64(len(m[4])))
	down.Sub(down, exp)
	power := new(big.Rat).SetInt(new(big.Int).Exp(big.NewInt(10), new(big.Int).Abs(down), nil))
	if down.Sign() > 0 {
		x.Quo(x, power)
	} else {
		x.Mul(x, power)
	}
	if m[3] != "" {
		x.Quo(x, new(big.Rat).SetInt(integer(m[3])))
	}
	return x
}

// TestReadLong: digits on all sides, as many as may be, and exponents of all sizes.
func TestReadLong(t *testing.T) {
	digits := strings.Repeat("31415926535897932384", 15)
	for _, n := range []int{1, 18, 19, 20, 38, 299, api.MaxDigits} {
		for _, sign := range []string{"", "-"} {
			checkRead(t, sign+digits[:n]+"/"+digits[api.MaxDigits-n:])
			for _, exp := range []string{"", "e0", "e1", "e-1", "e+59", "e60", "e-60", "e61", "e-61"} {
				checkRead(t, sign+digits[:n]+exp)
				checkRead(t, sign+digits[:n]+"."+digits[api.MaxDigits-n:]+exp)
			}
		}
	}
}

func TestReadsItsText(t *testing.T) {
	for _, x := range samples() {
		r := asR(t, x)
		if back := mustRead(t, r.Text()); !reflect.DeepEqual(back, r) {
			t.Errorf("%s is read as %s", x, back.Text())
		}
	}
}
