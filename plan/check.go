package plan

import (
	"slices"

	"optima/api"
	"optima/ratio"
)

func isBelow(r ratio.R) bool { return r.Sign() < 0 }

// fits is whether a cutting's lists are as long as they must be, its patterns are ones of the roll, and no number is below 0.
func fits(roll int, sizes []api.Size, c *Cutting) bool {
	if len(c.Times) != len(c.Patterns) || len(c.Worth) != len(sizes) {
		return false
	}
	none := func(pattern []int) bool { return !isPattern(roll, sizes, pattern) }
	return !slices.ContainsFunc(c.Patterns, none) && !slices.ContainsFunc(c.Times, isBelow) && !slices.ContainsFunc(c.Worth, isBelow)
}

// isPattern is whether a roll gives so many of each size. A number above the roll is told ahead of being multiplied, so that nothing runs over.
func isPattern(roll int, sizes []api.Size, pattern []int) bool {
	if len(pattern) != len(sizes) {
		return false
	}
	rest := roll
	for i, many := range pattern {
		if !isWithin(many, 0, roll) {
			return false
		}
		rest -= many * sizes[i].Long
	}
	return rest >= 0
}

// givesAll is whether of each size at least as many come as are wanted, and Rolls is how many rolls are cut.
func givesAll(sizes []api.Size, c *Cutting) bool {
	var rolls ratio.R
	come := make([]ratio.R, len(sizes))
	for k, pattern := range c.Patterns {
		rolls = rolls.Add(c.Times[k])
		for i, many := range pattern {
			come[i] = come[i].Add(c.Times[k].Mul(ratio.Int(int64(many))))
		}
	}
	for i, size := range sizes {
		if come[i].Cmp(ratio.Int(int64(size.Want))) < 0 {
			return false
		}
	}
	return rolls.Cmp(c.Rolls) == 0
}

// isLeast is whether all that is wanted is worth Rolls, and no pattern more than 1: then fewer rolls do not give as much.
func isLeast(roll int, sizes []api.Size, c *Cutting) bool {
	var all ratio.R
	for i, size := range sizes {
		all = all.Add(c.Worth[i].Mul(ratio.Int(int64(size.Want))))
	}
	return all.Cmp(c.Rolls) == 0 && !knapsackOf(roll, sizes, c.Worth).isAboveOne()
}
