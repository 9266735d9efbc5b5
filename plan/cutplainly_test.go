package plan

import (
	"math/big"
	"slices"
	"strconv"
	"strings"
	"testing"

	"optima/api"
	"optima/linear"
	"optima/ratio"
	"optima/simplex"
	"optima/whole"
)

func rat(r ratio.R) *big.Rat {
	out, _ := new(big.Rat).SetString(r.Text())
	return out
}

// eachPattern hears every pattern of a roll.
func eachPattern(roll int, sizes []api.Size, hear func(pattern []int)) {
	pattern := make([]int, len(sizes))
	var walk func(i, rest int)
	walk = func(i, rest int) {
		if i == len(sizes) {
			hear(pattern)
			return
		}
		for many := 0; many*sizes[i].Long <= rest; many++ {
			pattern[i] = many
			walk(i+1, rest-many*sizes[i].Long)
		}
		pattern[i] = 0
	}
	walk(0, roll)
}

// dearestPlainly is the most that a pattern is worth, found size by size.
func dearestPlainly(roll int, sizes []api.Size, worth []ratio.R) *big.Rat {
	best := make([]*big.Rat, roll+1) // of the sizes so far, just so long
	best[0] = new(big.Rat)
	for i, size := range sizes {
		for long := size.Long; long <= roll; long++ {
			if best[long-size.Long] == nil {
				continue
			}
			with := new(big.Rat).Add(best[long-size.Long], rat(worth[i]))
			if best[long] == nil || best[long].Cmp(with) < 0 {
				best[long] = with
			}
		}
	}
	most := new(big.Rat)
	for _, r := range best {
		if r != nil && r.Cmp(most) > 0 {
			most = r
		}
	}
	return most
}

// showsPlainly is P152's words one by one, with numbers of another kind.
func showsPlainly(roll int, sizes []api.Size, c *Cutting) bool {
	if len(c.Times) != len(c.Patterns) || len(c.Worth) != len(sizes) {
		return false
	}
	come := make([]*big.Rat, len(sizes))
	value := new(big.Rat)
	for i, size := range sizes {
		come[i] = new(big.Rat)
		if rat(c.Worth[i]).Sign() < 0 {
			return false
		}
		value.Add(value, new(big.Rat).Mul(rat(c.Worth[i]), big.NewRat(int64(size.Want), 1)))
	}
	rolls := new(big.Rat)
	for k, pattern := range c.Patterns {
		if len(pattern) != len(sizes) || rat(c.Times[k]).Sign() < 0 {
			return false
		}
		long := 0
		for i, many := range pattern {
			if many < 0 {
				return false
			}
			long += many * sizes[i].Long
			come[i].Add(come[i], new(big.Rat).Mul(rat(c.Times[k]), big.NewRat(int64(many), 1)))
		}
		if long > roll {
			return false
		}
		rolls.Add(rolls, rat(c.Times[k]))
	}
	for i, size := range sizes {
		if come[i].Cmp(big.NewRat(int64(size.Want), 1)) < 0 {
			return false
		}
	}
	return rolls.Cmp(rat(c.Rolls)) == 0 && value.Cmp(rolls) == 0 && dearestPlainly(roll, sizes, c.Worth).Cmp(big.NewRat(1, 1)) <= 0
}

// leastRolls is the least by a linear problem of all patterns; false, if these are too many.
func leastRolls(roll int, sizes []api.Size) (ratio.R, bool) {
	p := &linear.Problem{}
	nought := linear.Bound{Has: true}
	for i, size := range sizes {
		p.Rows = append(p.Rows, linear.Row{Name: "size" + strconv.Itoa(i), Low: linear.Bound{Has: true, At: ratio.Int(int64(size.Want))}})
	}
	eachPattern(roll, sizes, func(pattern []int) {
		col := len(p.Cols)
		p.Cols = append(p.Cols, linear.Col{Name: "pattern" + strconv.Itoa(col), Low: nought, Cost: ratio.Int(1)})
		for i, many := range pattern {
			if many > 0 {
				p.Rows[i].Terms = append(p.Rows[i].Terms, linear.Term{Col: col, By: ratio.Int(int64(many))})
			}
		}
	})
	if len(p.Cols) > api.MaxCols {
		return ratio.R{}, false
	}
	c, _, err := simplex.Solve(p)
	return c.Value, err == nil && c.Kind == api.Best
}

// sizes is some sizes of a roll; each may be there more than once, and not wanted.
func (s *scatter) sizes(many, roll, want int) []api.Size {
	out := make([]api.Size, many)
	short := 1 + s.below(roll)
	for i := range out {
		out[i] = api.Size{Long: min(roll, short+s.below(1+s.below(roll))), Want: s.below(want + 1)}
	}
	return out
}

func TestCutOfMany(t *testing.T) {
	s := scatter(362436069)
	held := 0
	for range 4000 {
		roll := 1 + s.below(30)
		sizes := s.sizes(s.below(6), roll, 1+s.below(20))
		c, err := Cut(roll, sizes)
		if err != nil || !showsPlainly(roll, sizes, c) {
			t.Fatalf("%d, %v: %+v, %v", roll, sizes, c, err)
		}
		if ok, err := CheckCut(roll, sizes, c); !ok || err != nil {
			t.Fatalf("%d, %v: %+v: %v, %v", roll, sizes, c, ok, err)
		}
		if least, ok := leastRolls(roll, sizes); ok {
			held++
			if least.Cmp(c.Rolls) != 0 {
				t.Fatalf("%d, %v: %s, want %s", roll, sizes, c.Rolls.Text(), least.Text())
			}
		}
	}
	if held < 1000 {
		t.Error("few were held against all patterns:", held)
	}
}

// spoil changes something of a cutting.
func (s *scatter) spoil(c *Cutting) {
	little, _ := ratio.Int(int64(s.below(7) - 3)).Quo(ratio.Int(int64(1 + s.below(6))))
	switch what := s.below(6); {
	case what == 0:
		c.Rolls = c.Rolls.Add(little)
	case what == 1 && len(c.Worth) > 0:
		i := s.below(len(c.Worth))
		c.Worth[i] = c.Worth[i].Add(little)
	case what == 2 && len(c.Times) > 0:
		k := s.below(len(c.Times))
		c.Times[k] = c.Times[k].Add(little)
	case what == 3 && len(c.Patterns) > 0 && len(c.Worth) > 0:
		c.Patterns[s.below(len(c.Patterns))][s.below(len(c.Worth))] += s.below(5) - 2
	case what == 4 && len(c.Times) > 0: // so much from one pattern to another one
		i, k := s.below(len(c.Times)), s.below(len(c.Times))
		c.Times[i], c.Times[k] = c.Times[i].Add(little), c.Times[k].Sub(little)
	case what == 5 && len(c.Worth) > 0:
		i, k := s.below(len(c.Worth)), s.below(len(c.Worth))
		c.Worth[i], c.Worth[k] = c.Worth[i].Add(little), c.Worth[k].Sub(little)
	}
}

func TestCheckCutOfMany(t *testing.T) {
	s := scatter(521288629)
	good, bad := 0, 0
	for range 20000 {
		roll := 1 + s.below(20)
		sizes := s.sizes(s.below(5), roll, 4)
		c, _ := Cut(roll, sizes)
		s.spoil(c)
		want := showsPlainly(roll, sizes, c)
		if ok, err := CheckCut(roll, sizes, c); ok != want || err != nil {
			t.Fatalf("%d, %v: %+v: %v, %v", roll, sizes, c, ok, err)
		}
		if want {
			good++
		} else {
			bad++
		}
	}
	if good < 500 || bad < 500 {
		t.Error(good, bad)
	}
}

// TestGreatestCuts: the widest rolls, as many sizes as there may be, few and very many wanted.
func TestGreatestCuts(t *testing.T) {
	s := scatter(88675123)
	for i := range 600 {
		roll := api.MaxRoll - s.below(20)
		sizes := s.sizes(api.MaxSizes, roll, []int{0, 1, 2, 100, api.MaxAbs}[i%5])
		c, err := Cut(roll, sizes)
		if err != nil || !showsPlainly(roll, sizes, c) {
			t.Fatalf("%d, %v: %+v, %v", roll, sizes, c, err)
		}
		if ok, err := CheckCut(roll, sizes, c); !ok || err != nil {
			t.Fatalf("%d, %v: %v, %v", roll, sizes, ok, err)
		}
	}
}

// TestLikeSizes: where all is alike, most steps spare nothing.
func TestLikeSizes(t *testing.T) {
	for long := 1; long <= api.MaxRoll-api.MaxSizes; long++ {
		var one, next []api.Size
		for i := range api.MaxSizes {
			one = append(one, api.Size{Long: long, Want: 1})
			next = append(next, api.Size{Long: long + i, Want: 1})
		}
		for _, sizes := range [][]api.Size{one, next, backwards(next)} {
			c, err := Cut(api.MaxRoll, sizes)
			if err != nil || !showsPlainly(api.MaxRoll, sizes, c) {
				t.Fatalf("%v: %+v, %v", sizes, c, err)
			}
		}
	}
}

func backwards(sizes []api.Size) []api.Size {
	out := slices.Clone(sizes)
	slices.Reverse(out)
	return out
}

// TestLongWorths: numbers as long as can be read.
func TestLongWorths(t *testing.T) {
	sizes := pieces(100, 1, 99, 0, 98, 0, 97, 0, 96, 0, 95, 0, 94, 0, 93, 0, 92, 0, 91, 0, 90, 0, 89, 0)
	c := &Cutting{Patterns: [][]int{make([]int, len(sizes))}, Times: []ratio.R{ratio.Int(1)}, Worth: make([]ratio.R, len(sizes)), Rolls: ratio.Int(1)}
	c.Patterns[0][0] = 1
	c.Worth[0] = ratio.Int(1)
	for i := range c.Worth[1:] {
		den, _ := whole.Read("1" + strings.Repeat("0", api.MaxDigits-3) + strconv.Itoa(10+i))
		c.Worth[i+1], _ = ratio.Of(whole.Of(1), den)
	}
	for _, want := range []bool{true, false} {
		roll := api.MaxRoll
		if want {
			roll = 187 // beside the first one there is room for nothing
		}
		if ok, err := CheckCut(roll, sizes, c); ok != want || err != nil || showsPlainly(roll, sizes, c) != want {
			t.Errorf("%d: %v, %v", roll, ok, err)
		}
	}
}
