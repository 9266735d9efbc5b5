package finite

import (
	"slices"

	"optima/api"
)

func isGreat(number int) bool { return number > api.MaxAbs || number < -api.MaxAbs }

func isBelow(number int) bool { return number < 0 }

// validList is what is wrong with the values of a variable, if anything is.
func validList(list []int) error {
	if len(list) > api.MaxVals {
		return api.ErrBound
	}
	for at, value := range list {
		if isGreat(value) {
			return api.ErrBound
		}
		if at > 0 && list[at-1] >= value {
			return api.ErrShape
		}
	}
	return nil
}

// validCon is what is wrong with a constraint over some of so many variables, if anything is.
func validCon(con api.Con, vars int) error {
	if isLong(con) || hasGreat(con) {
		return api.ErrBound
	}
	none := func(v int) bool { return v < 0 || v >= vars }
	if slices.ContainsFunc(con.Vars, none) || !isShaped(con) {
		return api.ErrShape
	}
	return nil
}

func isLong(con api.Con) bool {
	long := func(list []int) bool { return len(list) > api.MaxVars }
	return long(con.Vars) || long(con.Nums) || long(con.Uses) || len(con.Rows) > api.MaxVals || slices.ContainsFunc(con.Rows, long)
}

func hasGreat(con api.Con) bool {
	great := func(list []int) bool { return slices.ContainsFunc(list, isGreat) }
	return great(con.Nums) || great(con.Uses) || isGreat(con.Limit) || slices.ContainsFunc(con.Rows, great)
}

// isShaped is whether a constraint has what its kind has, and nothing else.
func isShaped(con api.Con) bool {
	var nums, uses, rows, limit bool // whether the kind has them
	var good bool
	switch con.Kind {
	case api.ConDiffer:
		good = true
	case api.ConSum:
		nums, limit = true, true
		good = !slices.Contains(con.Nums, 0)
	case api.ConTable:
		rows = true
		good = !slices.ContainsFunc(con.Rows, func(row []int) bool { return len(row) != len(con.Vars) })
	case api.ConElement:
		good = len(con.Vars) >= 2
	case api.ConShare:
		nums, uses, limit = true, true, true
		good = con.Limit >= 0 && !slices.ContainsFunc(con.Nums, isBelow) && !slices.ContainsFunc(con.Uses, isBelow)
	}
	return good && fits(con.Nums, con.Vars, nums) && fits(con.Uses, con.Vars, uses) && (rows || len(con.Rows) == 0) && (limit || con.Limit == 0)
}

// fits is whether a list has as many numbers as there are variables, or none, if it is not to be there.
func fits(list, vars []int, there bool) bool {
	if !there {
		return len(list) == 0
	}
	return len(list) == len(vars)
}
