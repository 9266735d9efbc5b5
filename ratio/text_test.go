package ratio

import (
	"math"
	"math/big"
	"regexp"
	"strings"
	"testing"

	"optima/api"
)

func TestText(t *testing.T) {
	for _, x := range samples() {
		if got := asR(t, x).Text(); got != x.RatString() {
			t.Errorf("%q, want %q", got, x.RatString())
		}
	}
}

func TestDecimal(t *testing.T) {
	sixty := strings.Repeat("0", api.MaxPlaces)
	for _, c := range []struct {
		text   string
		places int
		want   string
	}{
		{"0", 0, "0"},
		{"0", 2, "0.00"},
		{"7", 0, "7"},
		{"7", -1, "7"},
		{"7", math.MinInt, "7"},
		{"7", api.MaxPlaces, "7." + sixty},
		{"7", api.MaxPlaces + 1, "7." + sixty},
		{"7", math.MaxInt, "7." + sixty},
		{"-7", 1, "-7.0"},
		{"13/30", 3, "0.433"},
		{"1/2", 0, "0"},
		{"3/2", 0, "2"},
		{"5/2", 0, "2"},
		{"7/2", 0, "4"},
		{"-1/2", 0, "0"},
		{"-3/2", 0, "-2"},
		{"-5/2", 0, "-2"},
		{"-51/100", 0, "-1"},
		{"1/8", 2, "0.12"},
		{"3/8", 2, "0.38"},
		{"0.125000001", 2, "0.13"},
		{"0.375", 2, "0.38"},
		{"0.374999999", 2, "0.37"},
		{"-1/1000", 2, "0.00"},
		{"-1/200", 2, "0.00"},
		{"-1.01e-2", 1, "0.0"},
		{"-6/1000", 2, "-0.01"},
		{"999/1000", 2, "1.00"},
		{"-999/1000", 2, "-1.00"},
		{"9.995", 2, "10.00"},
		{"99.5", 0, "100"},
		{"0.05", 1, "0.0"},
		{"0.15", 1, "0.2"},
		{"0.25", 1, "0.2"},
		{"1e-60", 60, "0." + sixty[1:] + "1"},
		{"-1e-60", 59, "0." + sixty[1:]},
		{"1e60", 1, "1" + sixty + ".0"},
		{"2/3", 60, "0." + strings.Repeat("6", 59) + "7"},
	} {
		if got := mustRead(t, c.text).Decimal(c.places); got != c.want {
			t.Errorf("%s to %d: %s, want %s", c.text, c.places, got, c.want)
		}
	}
}

var decimalForm = regexp.MustCompile(`^(-?)(0|[1-9]\d*)(?:\.(\d+))?$`)

// TestDecimalIsNearest: by what it must be, not by how it is found.
func TestDecimalIsNearest(t *testing.T) {
	for _, x := range append(samples(), halves()...) {
		for _, places := range []int{-5, 0, 1, 2, 3, 17, 18, 19, 59, 60, 61, 1000} {
			checkDecimal(t, x, places, asR(t, x).Decimal(places))
		}
	}
}

// halves lie in the middle of two decimals, or a little beside it.
func halves() []*big.Rat {
	var out []*big.Rat
	for _, tens := range []int64{1, 10, 100, 1000} {
		for n := range int64(24) {
			x := big.NewRat(2*(n-12)+1, 2*tens)
			beside := big.NewRat(1, 1<<60)
			out = append(out, x, new(big.Rat).Add(x, beside), new(big.Rat).Sub(x, beside))
		}
	}
	return out
}

func checkDecimal(t *testing.T, x *big.Rat, places int, got string) {
	t.Helper()
	want := min(max(places, 0), 60)
	m := decimalForm.FindStringSubmatch(got)
	if m == nil || len(m[3]) != want || m[1] == "-" && strings.Trim(m[2]+m[3], "0") == "" {
		t.Errorf("%s to %d: %q", x, places, got)
		return
	}
	scale := new(big.Rat).SetInt(new(big.Int).Exp(big.NewInt(10), big.NewInt(int64(want)), nil))
	off := new(big.Rat).SetInt(integer(m[1] + m[2] + m[3]))
	off.Sub(off, new(big.Rat).Mul(x, scale)).Abs(off)
	half := off.Cmp(big.NewRat(1, 2))
	even := strings.ContainsRune("02468", rune(got[len(got)-1]))
	if half > 0 || half == 0 && !even {
		t.Errorf("%s to %d: %q is not the nearest", x, places, got)
	}
}

// TestDocument: the document's own example.
func TestDocument(t *testing.T) {
	r := mustRead(t, "0.1").Add(mustRead(t, "1/3"))
	if r.Text() != "13/30" || r.Decimal(3) != "0.433" {
		t.Errorf("%s, %s", r.Text(), r.Decimal(3))
	}
}
