package ratio

import (
	"math/big"
	"reflect"
	"testing"
)

func TestSimplest(t *testing.T) {
	for _, c := range [][3]string{
		{"0", "0", "0"},
		{"0", "5", "0"},
		{"-5", "0", "0"},
		{"-1/2", "1/3", "0"},
		{"3", "9", "3"},
		{"-9", "-3", "-3"},
		{"5/2", "9", "3"},
		{"-9", "-5/2", "-3"},
		{"1/3", "1/2", "1/2"},
		{"-1/2", "-1/3", "-1/2"},
		{"1/3", "2/5", "1/3"},
		{"2/5", "3/7", "2/5"},
		{"3.1", "3.2", "16/5"},
		{"3.14", "3.15", "22/7"},
		{"-3.15", "-3.14", "-22/7"},
		{"3.1415926", "3.1415927", "86953/27678"},
		{"7/10", "7/10", "7/10"},
		{"-7/10", "-7/10", "-7/10"},
		{"1e-60", "1", "1"},
		{"1e-60", "0.999", "1/2"},
		{"1e-60", "2e-60", "1/500000000000000000000000000000000000000000000000000000000000"},
	} {
		r, ok := Simplest(mustRead(t, c[0]), mustRead(t, c[1]))
		if !ok || r.Text() != c[2] {
			t.Errorf("%s to %s: %s, %v, want %s", c[0], c[1], r.Text(), ok, c[2])
		}
	}
}

func TestSimplestCrossed(t *testing.T) {
	for _, c := range [][2]string{{"1", "0"}, {"0", "-1"}, {"1", "-1"}, {"1/2", "1/3"}, {"-1/3", "-1/2"}, {"1e-60", "0"}, {"1e60", "-1e60"}} {
		if r, ok := Simplest(mustRead(t, c[0]), mustRead(t, c[1])); ok || !reflect.DeepEqual(r, R{}) {
			t.Errorf("%s to %s: %s, %v", c[0], c[1], r.Text(), ok)
		}
	}
}

// searched goes through all denominators, the least first.
func searched(low, high *big.Rat) *big.Rat {
	for den := int64(1); ; den++ {
		scale := big.NewRat(den, 1)
		from, to := new(big.Rat).Mul(low, scale), new(big.Rat).Mul(high, scale)
		first := new(big.Int).Neg(new(big.Int).Div(new(big.Int).Neg(from.Num()), from.Denom()))
		last := new(big.Int).Div(to.Num(), to.Denom())
		if first.Cmp(last) > 0 {
			continue
		}
		near := new(big.Int) // the one nearest to 0 of those from first to last
		if first.Sign() > 0 {
			near = first
		} else if last.Sign() < 0 {
			near = last
		}
		return new(big.Rat).SetFrac(near, big.NewInt(den))
	}
}

func TestSimplestOfAllSmall(t *testing.T) {
	var list []*big.Rat
	for den := range int64(13) {
		for num := range int64(41) {
			list = append(list, big.NewRat(num-20, den+1))
		}
	}
	numbers := make([]R, len(list))
	for i := range list {
		numbers[i] = asR(t, list[i])
	}
	for i, low := range list {
		for j, high := range list {
			want, ok := new(big.Rat), low.Cmp(high) <= 0
			if ok {
				want = searched(low, high)
			}
			got, has := Simplest(numbers[i], numbers[j])
			if has != ok || got.Text() != want.RatString() {
				t.Fatalf("%s to %s: %s, %v, want %s", low, high, got.Text(), has, want)
			}
		}
	}
}

// TestSimplestIsFound: two fractions differ by 1 by both denominators or more, so none of no greater denominator lies nearer to x than 1 by its square.
func TestSimplestIsFound(t *testing.T) {
	for _, x := range samples() {
		square := new(big.Int).Mul(x.Denom(), x.Denom())
		off := new(big.Rat).SetFrac(big.NewInt(1), square.Add(square, big.NewInt(1)))
		low, high := new(big.Rat).Sub(x, off), new(big.Rat).Add(x, off)
		for _, c := range [][2]*big.Rat{{low, high}, {x, high}, {low, x}, {x, x}} {
			got, ok := Simplest(asR(t, c[0]), asR(t, c[1]))
			if !ok {
				t.Errorf("%s to %s: false", c[0], c[1])
			}
			expect(t, "found", got, x)
		}
	}
}

// TestSimplestLongChain: of two neighbours in Fibonacci's row each step takes just 1.
func TestSimplestLongChain(t *testing.T) {
	a, b := big.NewInt(1), big.NewInt(1)
	for range 3000 {
		a, b = b, new(big.Int).Add(a, b)
	}
	x := new(big.Rat).SetFrac(b, a)
	r := asR(t, x)
	got, ok := Simplest(r, r)
	if !ok || !reflect.DeepEqual(got, r) {
		t.Error("a long chain is not itself")
	}
}
