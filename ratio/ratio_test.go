package ratio

import (
	"fmt"
	"math"
	"math/big"
	"reflect"
	"testing"

	"optima/whole"
)

func asZ(t *testing.T, n *big.Int) whole.Z {
	t.Helper()
	z := whole.Z{}
	text := new(big.Int).Abs(n).String()
	for i := range len(text) { // in parts, since it may be longer than Read takes
		z = z.Mul(whole.Of(10)).Add(whole.Of(int64(text[i] - '0')))
	}
	if n.Sign() < 0 {
		z = z.Neg()
	}
	return z
}

func asR(t *testing.T, x *big.Rat) R {
	t.Helper()
	r, ok := Of(asZ(t, x.Num()), asZ(t, x.Denom()))
	if !ok {
		t.Fatalf("%s is none", x)
	}
	return r
}

// expect holds what is told, and its form, against what should be.
func expect(t *testing.T, what string, got R, want *big.Rat) {
	t.Helper()
	if got.Num().Text() != want.Num().String() || got.Den().Text() != want.Denom().String() {
		t.Errorf("%s: %s / %s, want %s", what, got.Num().Text(), got.Den().Text(), want)
	}
	if got.Sign() != want.Sign() || got.IsWhole() != want.IsInt() {
		t.Errorf("%s: Sign %d, IsWhole %v of %s", what, got.Sign(), got.IsWhole(), want)
	}
	if !reflect.DeepEqual(got, asR(t, want)) {
		t.Errorf("%s: %v is not the form of %s", what, got, want)
	}
}

// samples: all fractions of small numbers, and fractions of what lies around the edges of an int64 and of a word.
func samples() []*big.Rat {
	var out []*big.Rat
	for num := range int64(7) {
		for den := range int64(6) {
			out = append(out, big.NewRat(num, den+1), big.NewRat(-num, den+1))
		}
	}
	edges := edges()
	for i, num := range edges {
		den := edges[(i*7+3)%len(edges)]
		out = append(out, new(big.Rat).SetFrac(num, den), new(big.Rat).SetFrac(big.NewInt(-1), num), new(big.Rat).SetInt(num))
	}
	return out
}

// edges: numbers around powers of 2, none of them 0, of both signs.
func edges() []*big.Int {
	var out []*big.Int
	for _, k := range []uint{31, 32, 62, 63, 64, 65, 127, 128, 200} {
		for d := range int64(3) {
			n := new(big.Int).Lsh(big.NewInt(1), k)
			n.Add(n, big.NewInt(d-1))
			if d == 1 {
				n.Neg(n)
			}
			out = append(out, n)
		}
	}
	return out
}

func TestOf(t *testing.T) {
	for _, c := range []struct {
		num, den  int64
		want, top string
		under     string
	}{
		{0, 1, "0", "0", "1"},
		{0, -7, "0", "0", "1"},
		{0, math.MinInt64, "0", "0", "1"},
		{6, 4, "3/2", "3", "2"},
		{6, -4, "-3/2", "-3", "2"},
		{-6, 4, "-3/2", "-3", "2"},
		{-6, -4, "3/2", "3", "2"},
		{6, -3, "-2", "-2", "1"},
		{5, 5, "1", "1", "1"},
		{math.MinInt64, -1, "9223372036854775808", "9223372036854775808", "1"},
		{1, math.MinInt64, "-1/9223372036854775808", "-1", "9223372036854775808"},
		{math.MinInt64, math.MinInt64, "1", "1", "1"},
		{math.MaxInt64, math.MinInt64, "-9223372036854775807/9223372036854775808", "-9223372036854775807", "9223372036854775808"},
	} {
		r, ok := Of(whole.Of(c.num), whole.Of(c.den))
		if !ok || r.Text() != c.want || r.Num().Text() != c.top || r.Den().Text() != c.under {
			t.Errorf("%d by %d: %s, %v, want %s", c.num, c.den, r.Text(), ok, c.want)
		}
	}
}

func TestOfNought(t *testing.T) {
	for _, n := range []int64{0, 1, -1, math.MaxInt64, math.MinInt64} {
		if r, ok := Of(whole.Of(n), whole.Z{}); ok || !reflect.DeepEqual(r, R{}) {
			t.Errorf("%d by 0: %s, %v", n, r.Text(), ok)
		}
	}
	huge := asZ(t, new(big.Int).Lsh(big.NewInt(3), 300))
	if r, ok := Of(huge, whole.Of(0)); ok || !reflect.DeepEqual(r, R{}) {
		t.Errorf("a huge one by 0: %s, %v", r.Text(), ok)
	}
}

func TestOfCancels(t *testing.T) {
	for _, x := range samples() {
		for _, by := range append(edges(), big.NewInt(1), big.NewInt(-1), big.NewInt(30)) {
			num, den := new(big.Int).Mul(x.Num(), by), new(big.Int).Mul(x.Denom(), by)
			r, ok := Of(asZ(t, num), asZ(t, den))
			if !ok {
				t.Fatalf("%s by %s: false", num, den)
			}
			expect(t, fmt.Sprintf("%s by %s", num, den), r, x)
		}
	}
}

func TestInt(t *testing.T) {
	for _, n := range []int64{0, 1, -1, 12, math.MaxInt64, math.MinInt64} {
		expect(t, "Int", Int(n), big.NewRat(n, 1))
	}
}

func TestZeroValue(t *testing.T) {
	var zero R
	expect(t, "the zero value", zero, new(big.Rat))
	third := asR(t, big.NewRat(1, 3))
	expect(t, "0 + 1/3", zero.Add(third), big.NewRat(1, 3))
	expect(t, "1/3 + 0", third.Add(zero), big.NewRat(1, 3))
	expect(t, "0 - 1/3", zero.Sub(third), big.NewRat(-1, 3))
	expect(t, "0 * 1/3", zero.Mul(third), new(big.Rat))
	expect(t, "-0", zero.Neg(), new(big.Rat))
	if zero.Cmp(Int(0)) != 0 || zero.Text() != "0" || zero.Floor().Text() != "0" || zero.Ceil().Text() != "0" {
		t.Error("the zero value is not 0")
	}
}

func checkPair(t *testing.T, x, y *big.Rat, a, b R) {
	t.Helper()
	pair := func(sign string) string { return fmt.Sprintf("%s %s %s", x, sign, y) }
	expect(t, pair("+"), a.Add(b), new(big.Rat).Add(x, y))
	expect(t, pair("-"), a.Sub(b), new(big.Rat).Sub(x, y))
	expect(t, pair("*"), a.Mul(b), new(big.Rat).Mul(x, y))
	if a.Cmp(b) != x.Cmp(y) {
		t.Errorf("%s: %d", pair("Cmp"), a.Cmp(b))
	}
	want := new(big.Rat)
	if y.Sign() != 0 {
		want.Quo(x, y)
	}
	got, ok := a.Quo(b)
	if ok != (y.Sign() != 0) {
		t.Errorf("%s: %v", pair("by"), ok)
	}
	expect(t, pair("by"), got, want)
}

func TestPairs(t *testing.T) {
	list := samples()
	numbers := make([]R, len(list))
	for i := range list {
		numbers[i] = asR(t, list[i])
	}
	for i := range list {
		expect(t, "Neg", numbers[i].Neg(), new(big.Rat).Neg(list[i]))
		for j := range list {
			checkPair(t, list[i], list[j], numbers[i], numbers[j])
		}
	}
	for i := range list { // what was handed over is only read
		expect(t, "later", numbers[i], list[i])
	}
}

// TestSharedDenominators: a sum may have something in common with what both denominators share, and with that alone.
func TestSharedDenominators(t *testing.T) {
	for _, shared := range append(edges(), big.NewInt(60)) {
		for a := range int64(8) {
			for b := range int64(8) {
				x := new(big.Rat).SetFrac(big.NewInt(2*a+1), new(big.Int).Mul(shared, big.NewInt(b+1)))
				y := new(big.Rat).SetFrac(big.NewInt(b-3), new(big.Int).Mul(shared, big.NewInt(a+2)))
				checkPair(t, x, y, asR(t, x), asR(t, y))
			}
		}
	}
}

func TestFloorAndCeil(t *testing.T) {
	for _, x := range samples() {
		floor, rest := new(big.Int), new(big.Int)
		floor.DivMod(x.Num(), x.Denom(), rest) // the denominator is above 0: then Euclid's rest makes it the floor
		ceil := new(big.Int).Set(floor)
		if rest.Sign() != 0 {
			ceil.Add(ceil, big.NewInt(1))
		}
		r := asR(t, x)
		if r.Floor().Text() != floor.String() || r.Ceil().Text() != ceil.String() {
			t.Errorf("%s: %s, %s, want %s, %s", x, r.Floor().Text(), r.Ceil().Text(), floor, ceil)
		}
	}
}

func TestFloorAndCeilSigns(t *testing.T) {
	for _, c := range [][4]int64{{7, 2, 3, 4}, {-7, 2, -4, -3}, {1, 3, 0, 1}, {-1, 3, -1, 0}, {4, 2, 2, 2}, {-4, 2, -2, -2}, {0, 5, 0, 0}} {
		r := asR(t, big.NewRat(c[0], c[1]))
		if r.Floor().Cmp(whole.Of(c[2])) != 0 || r.Ceil().Cmp(whole.Of(c[3])) != 0 {
			t.Errorf("%s: %s, %s", r.Text(), r.Floor().Text(), r.Ceil().Text())
		}
	}
}
