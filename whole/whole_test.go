package whole

import (
	"fmt"
	"math"
	"math/big"
	"reflect"
	"testing"
)

// samples: small numbers, what lies around powers of 2, and lists of words that make a guessed digit wrong; both signs.
func samples() []*big.Int {
	var out []*big.Int
	both := func(n *big.Int) { out = append(out, n, new(big.Int).Neg(n)) }
	for n := range int64(13) {
		both(big.NewInt(n))
	}
	for _, k := range []uint{31, 32, 33, 62, 63, 64, 65, 95, 96, 127, 128, 129, 191, 192, 256, 320} {
		for d := range int64(3) {
			power := new(big.Int).Lsh(big.NewInt(1), k)
			both(power.Add(power, big.NewInt(d-1)))
		}
	}
	words := []uint64{0, 1, 1 << 63, 1<<63 - 1, math.MaxUint64, math.MaxUint64 - 1}
	for i := range 120 {
		both(fromWords(words[i%6], words[i/6%6], words[1+i/36%5], words[1+i/7%5]))
	}
	return out
}

func fromWords(words ...uint64) *big.Int {
	n := new(big.Int)
	for _, w := range words {
		n.Lsh(n, 64).Or(n, new(big.Int).SetUint64(w))
	}
	return n
}

// scattered: numbers of up to so many words out of a fixed rule.
func scattered(count, most int) []*big.Int {
	state := uint64(20)
	next := func() uint64 {
		state ^= state << 13
		state ^= state >> 7
		state ^= state << 17
		return state
	}
	var out []*big.Int
	for range count {
		n := new(big.Int)
		for range 1 + next()%uint64(most) {
			n.Lsh(n, 64).Or(n, new(big.Int).SetUint64(next()))
		}
		n.Rsh(n, uint(next()%64))
		if next()%2 == 0 {
			n.Neg(n)
		}
		out = append(out, n)
	}
	return out
}

// asZ is read by the given text, in parts, since it may be longer than Read takes.
func asZ(t *testing.T, n *big.Int) Z {
	t.Helper()
	z := Z{}
	text := new(big.Int).Abs(n).String()
	for i := range len(text) {
		z = z.Mul(Of(10)).Add(Of(int64(text[i] - '0')))
	}
	if n.Sign() < 0 {
		z = z.Neg()
	}
	if z.Text() != n.String() {
		t.Fatalf("%s is %s", n, z.Text())
	}
	return z
}

// expect holds what is told, and its form, against what should be.
func expect(t *testing.T, what string, got Z, want *big.Int) {
	t.Helper()
	if got.Text() != want.String() {
		t.Errorf("%s: %s, want %s", what, got.Text(), want)
	}
	n, ok := got.Int64()
	if ok != want.IsInt64() || ok && n != want.Int64() || !ok && n != 0 {
		t.Errorf("%s: Int64 %d, %v", what, n, ok)
	}
	if got.Sign() != want.Sign() {
		t.Errorf("%s: Sign %d", what, got.Sign())
	}
}

func checkPair(t *testing.T, x, y *big.Int, a, b Z) {
	t.Helper()
	pair := func(sign string) string { return fmt.Sprintf("%s %s %s", x, sign, y) }
	expect(t, pair("+"), a.Add(b), new(big.Int).Add(x, y))
	expect(t, pair("-"), a.Sub(b), new(big.Int).Sub(x, y))
	expect(t, pair("*"), a.Mul(b), new(big.Int).Mul(x, y))
	expect(t, pair("gcd"), a.Gcd(b), new(big.Int).GCD(nil, nil, new(big.Int).Abs(x), new(big.Int).Abs(y)))
	if a.Cmp(b) != x.Cmp(y) {
		t.Errorf("%s: %d", pair("Cmp"), a.Cmp(b))
	}
	q, r, ok := a.DivMod(b)
	if ok != (y.Sign() != 0) {
		t.Errorf("%s: %v", pair("DivMod"), ok)
	}
	wantQ, wantR := new(big.Int), new(big.Int)
	if ok {
		wantQ.DivMod(x, y, wantR) // Euclid's too: the rest is never below 0
	}
	expect(t, pair("DivMod, parts"), q, wantQ)
	expect(t, pair("DivMod, rest"), r, wantR)
}

func checkAllPairs(t *testing.T, list []*big.Int) {
	t.Helper()
	numbers := make([]Z, len(list))
	for i := range list {
		numbers[i] = asZ(t, list[i])
	}
	for i := range list {
		expect(t, "Neg", numbers[i].Neg(), new(big.Int).Neg(list[i]))
		for j := range list {
			checkPair(t, list[i], list[j], numbers[i], numbers[j])
		}
	}
	for i := range list { // what was handed over is only read
		expect(t, "later", numbers[i], list[i])
	}
}

func TestPairsAtEdges(t *testing.T) { checkAllPairs(t, samples()) }

func TestPairsScattered(t *testing.T) { checkAllPairs(t, scattered(60, 12)) }

func TestProductsComeApart(t *testing.T) {
	list := scattered(40, 20)
	for i := range list {
		x, y, d := list[i], list[(i+7)%len(list)], list[(i+11)%len(list)]
		a, b := new(big.Int).Mul(x, d), new(big.Int).Mul(y, d)
		checkPair(t, a, b, asZ(t, a), asZ(t, b))
		checkPair(t, a, d, asZ(t, a), asZ(t, d))
		a.Add(a, d).Sub(a, big.NewInt(1))
		checkPair(t, a, d, asZ(t, a), asZ(t, d))
	}
}

func TestGcdWithTwos(t *testing.T) {
	for _, shift := range []uint{1, 63, 64, 65, 128, 200} {
		for _, n := range scattered(10, 5) {
			a := new(big.Int).Lsh(n, shift)
			b := new(big.Int).Lsh(big.NewInt(15), shift+3)
			checkPair(t, a, b, asZ(t, a), asZ(t, b))
			checkPair(t, a, a, asZ(t, a), asZ(t, a))
		}
	}
}

func TestDivModSigns(t *testing.T) {
	for _, c := range [][4]int64{{7, 2, 3, 1}, {-7, 2, -4, 1}, {7, -2, -3, 1}, {-7, -2, 4, 1}, {6, -3, -2, 0}, {-6, -3, 2, 0}, {0, 5, 0, 0}, {0, -5, 0, 0}, {-1, math.MinInt64, 1, math.MaxInt64}, {math.MinInt64, math.MinInt64, 1, 0}, {math.MinInt64, 1, math.MinInt64, 0}} {
		q, r, ok := Of(c[0]).DivMod(Of(c[1]))
		if !ok || q.Cmp(Of(c[2])) != 0 || r.Cmp(Of(c[3])) != 0 {
			t.Errorf("%d by %d: %s, %s, %v", c[0], c[1], q.Text(), r.Text(), ok)
		}
	}
	q, r, ok := Of(math.MinInt64).DivMod(Of(-1))
	if !ok || q.Text() != "9223372036854775808" || r.Sign() != 0 {
		t.Errorf("the least int64 by -1: %s, %s, %v", q.Text(), r.Text(), ok)
	}
}

func TestByNought(t *testing.T) {
	for _, n := range samples() {
		q, r, ok := asZ(t, n).DivMod(Z{})
		if ok || q.Text() != "0" || r.Text() != "0" {
			t.Errorf("%s by 0: %s, %s, %v", n, q.Text(), r.Text(), ok)
		}
	}
}

// TestOneForm: a number is held in one way, however it came about.
func TestOneForm(t *testing.T) {
	huge := Of(math.MaxInt64).Mul(Of(math.MaxInt64))
	half := Of(math.MinInt64).Neg()
	for _, c := range []struct{ got, want Z }{
		{huge.Sub(huge), Z{}},
		{huge.Add(Of(5)).Sub(huge), Of(5)},
		{half.Neg(), Of(math.MinInt64)},
		{half.Sub(Of(1)), Of(math.MaxInt64)},
		{Of(math.MinInt64).Sub(Of(1)).Add(Of(1)), Of(math.MinInt64)},
		{huge.Mul(Of(0)), Z{}},
		{Of(0).Mul(huge), Z{}},
		{Of(1 << 62).Mul(Of(-2)), Of(math.MinInt64)},
	} {
		if !reflect.DeepEqual(c.got, c.want) {
			t.Errorf("%v, want %v", c.got, c.want)
		}
	}
	if q, r, _ := huge.DivMod(huge); !reflect.DeepEqual(q, Of(1)) || !reflect.DeepEqual(r, Z{}) {
		t.Errorf("%v, %v", q, r)
	}
}
