package whole

import (
	"errors"
	"math"
	"strings"
	"testing"

	"optima/api"
)

func TestReadAndText(t *testing.T) {
	nines := strings.Repeat("9", api.MaxDigits)
	for _, c := range []struct{ text, want string }{
		{"0", "0"},
		{"-0", "0"},
		{"000", "0"},
		{"-000", "0"},
		{"7", "7"},
		{"007", "7"},
		{"-0012", "-12"},
		{"9223372036854775807", "9223372036854775807"},
		{"9223372036854775808", "9223372036854775808"},
		{"-9223372036854775808", "-9223372036854775808"},
		{"-9223372036854775809", "-9223372036854775809"},
		{"9999999999999999999", "9999999999999999999"},
		{"10000000000000000000", "10000000000000000000"},
		{"18446744073709551615", "18446744073709551615"},
		{"18446744073709551616", "18446744073709551616"},
		{"100000000000000000000000000000000000000", "100000000000000000000000000000000000000"},
		{"-100000000000000000010000000000000000002", "-100000000000000000010000000000000000002"},
		{nines, nines},
		{"-" + nines, "-" + nines},
		{strings.Repeat("0", api.MaxDigits), "0"},
		{"-" + strings.Repeat("0", api.MaxDigits-1) + "5", "-5"},
	} {
		z, err := Read(c.text)
		if err != nil || z.Text() != c.want {
			t.Errorf("%q: %q, %v, want %q", c.text, z.Text(), err, c.want)
		}
	}
}

func TestReadEachLength(t *testing.T) {
	const digits = "31415926535897932384"
	all := strings.Repeat(digits, api.MaxDigits/len(digits))
	for n := range api.MaxDigits {
		for _, text := range []string{all[:n+1], "-" + all[:n+1]} {
			if z, err := Read(text); err != nil || z.Text() != text {
				t.Fatalf("%q: %q, %v", text, z.Text(), err)
			}
		}
	}
}

func TestReadWrong(t *testing.T) {
	full := strings.Repeat("7", api.MaxDigits)
	zeros := strings.Repeat("0", api.MaxDigits)
	for _, c := range []struct {
		text string
		at   int
		err  error
	}{
		{"", 0, api.ErrText},
		{"-", 1, api.ErrText},
		{"--1", 1, api.ErrText},
		{"+1", 0, api.ErrText},
		{" 1", 0, api.ErrText},
		{"1 ", 1, api.ErrText},
		{"1-", 1, api.ErrText},
		{"-1-", 2, api.ErrText},
		{"12x4y", 2, api.ErrText},
		{"1_000", 1, api.ErrText},
		{"1.0", 1, api.ErrText},
		{"0x10", 1, api.ErrText},
		{"1e3", 1, api.ErrText},
		{"5\x00", 1, api.ErrText},
		{"12\u0663", 2, api.ErrText},
		{"\xff", 0, api.ErrText},
		{full + "7", api.MaxDigits, api.ErrBound},
		{"-" + full + "7", api.MaxDigits + 1, api.ErrBound},
		{zeros + "0", api.MaxDigits, api.ErrBound},
		{full + "7x", api.MaxDigits, api.ErrBound},
		{full + "x7", api.MaxDigits, api.ErrText},
		{"x" + full + "7", 0, api.ErrText},
		{strings.Repeat("1", 100000), api.MaxDigits, api.ErrBound},
	} {
		z, err := Read(c.text)
		var fault *api.Fault
		if !errors.As(err, &fault) || !errors.Is(err, c.err) || fault.At != c.at || z.Text() != "0" {
			t.Errorf("%.20q: %q, %v, want %v at %d", c.text, z.Text(), err, c.err, c.at)
		}
	}
}

func TestReadEachByte(t *testing.T) {
	for b := range 256 {
		text := "1" + string([]byte{byte(b)})
		_, err := Read(text)
		if digit := b >= '0' && b <= '9'; digit != (err == nil) {
			t.Errorf("%q: %v", text, err)
		}
	}
}

func TestOfAndInt64(t *testing.T) {
	for _, n := range []int64{0, 1, -1, 9, -10, 1<<31 - 1, 1 << 31, 1<<32 - 1, 1 << 32, -1 << 32, math.MaxInt64, math.MaxInt64 - 1, math.MinInt64, math.MinInt64 + 1} {
		if m, ok := Of(n).Int64(); !ok || m != n {
			t.Errorf("%d: %d, %v", n, m, ok)
		}
		if back, err := Read(Of(n).Text()); err != nil || back.Cmp(Of(n)) != 0 {
			t.Errorf("%d: %q is read as %q, %v", n, Of(n).Text(), back.Text(), err)
		}
	}
	for _, text := range []string{"9223372036854775808", "-9223372036854775809", "18446744073709551615", "-18446744073709551616", "18446744073709551617"} {
		z, _ := Read(text)
		if m, ok := z.Int64(); ok || m != 0 {
			t.Errorf("%s: %d, %v", text, m, ok)
		}
	}
}

func TestZeroValue(t *testing.T) {
	var zero Z
	n, ok := zero.Int64()
	if zero.Text() != "0" || zero.Sign() != 0 || n != 0 || !ok || zero.Cmp(Of(0)) != 0 {
		t.Error("the zero value is not 0")
	}
}
