package plan

import (
	"optima/api"
	"optima/ratio"
	"optima/whole"
)

// knapsack is the most that patterns are worth, of each length up to a roll's.
//
// It counts in parts of 1, by which all worths are whole: these are added without cancelling.
type knapsack struct {
	sizes []api.Size
	parts whole.Z   // how many 1 is
	most  []whole.Z // of each length
	last  []int     // of each length the size of a piece of such a pattern; -1: it is one of a lesser length
}

// knapsackOf is that of worths that are not below 0, one of each size.
func knapsackOf(roll int, sizes []api.Size, worth []ratio.R) *knapsack {
	k := &knapsack{sizes: sizes, parts: whole.Of(1), most: make([]whole.Z, roll+1), last: make([]int, roll+1)}
	for _, r := range worth {
		k.parts = quotient(k.parts, k.parts.Gcd(r.Den())).Mul(r.Den())
	}
	counts := make([]whole.Z, len(worth))
	for i, r := range worth {
		counts[i] = r.Num().Mul(quotient(k.parts, r.Den()))
	}
	k.last[0] = -1
	for long := 1; long <= roll; long++ {
		k.find(long, counts)
	}
	return k
}

// find finds what a length is worth, when that of lesser ones is known.
func (k *knapsack) find(long int, counts []whole.Z) {
	k.most[long], k.last[long] = k.most[long-1], -1
	for i, size := range k.sizes {
		if size.Long > long {
			continue
		}
		if with := k.most[long-size.Long].Add(counts[i]); with.Cmp(k.most[long]) > 0 {
			k.most[long], k.last[long] = with, i
		}
	}
}

// isAboveOne is whether a pattern is worth more than 1.
func (k *knapsack) isAboveOne() bool { return k.most[len(k.most)-1].Cmp(k.parts) > 0 }

// pattern is one that is worth most.
func (k *knapsack) pattern() []int {
	out := make([]int, len(k.sizes))
	for long := len(k.most) - 1; long > 0; {
		i := k.last[long]
		if i < 0 {
			long--
			continue
		}
		out[i]++
		long -= k.sizes[i].Long
	}
	return out
}

// quotient is z by d, which divides it.
func quotient(z, d whole.Z) whole.Z {
	q, _, _ := z.DivMod(d)
	return q
}
