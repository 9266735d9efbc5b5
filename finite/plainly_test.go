package finite

import (
	"slices"

	"optima/api"
)

// keepsPlainly takes the words of the constraints one by one.
func keepsPlainly(p api.Puzzle, x []int) bool {
	for _, con := range p.Cons {
		if !keepsCon(con, over{con.Vars}.pick(x)) {
			return false
		}
	}
	return true
}

func keepsCon(con api.Con, values []int) bool {
	switch con.Kind {
	case api.ConDiffer:
		for i, value := range values {
			if slices.Contains(values[:i], value) {
				return false
			}
		}
		return true
	case api.ConSum:
		sum := 0
		for i, value := range values {
			sum += con.Nums[i] * value
		}
		return sum == con.Limit
	case api.ConTable:
		return slices.ContainsFunc(con.Rows, func(row []int) bool { return slices.Equal(row, values) })
	case api.ConElement:
		behind := values[2:]
		return values[0] >= 0 && values[0] < len(behind) && behind[values[0]] == values[1]
	}
	for i, value := range values {
		for moment := value; moment < value+con.Nums[i]; moment++ {
			if usePlainly(con, values, moment) > con.Limit {
				return false
			}
		}
	}
	return true
}

func usePlainly(con api.Con, values []int, moment int) int {
	use := 0
	for i, value := range values {
		if value <= moment && moment < value+con.Nums[i] {
			use += con.Uses[i]
		}
	}
	return use
}

// every tells all values of lists, one of each, in order, until it is told to stop.
func every(lists [][]int, hear func(x []int) bool) {
	x := make([]int, len(lists))
	var from func(v int) bool
	from = func(v int) bool {
		if v == len(lists) {
			return hear(x)
		}
		for _, x[v] = range lists[v] {
			if !from(v + 1) {
				return false
			}
		}
		return true
	}
	from(0)
}

// firstPlainly tries one value after the other, and looks at a constraint as soon as all of its variables have one; nil, if there are none.
func firstPlainly(p api.Puzzle) []int {
	ready := make([][]api.Con, len(p.Values)+1)
	for _, con := range p.Cons {
		last := -1
		if len(con.Vars) > 0 {
			last = slices.Max(con.Vars)
		}
		ready[last+1] = append(ready[last+1], con)
	}
	x := make([]int, len(p.Values))
	var from func(v int) bool
	from = func(v int) bool {
		if !keepsPlainly(api.Puzzle{Cons: ready[v]}, x) {
			return false
		}
		if v == len(x) {
			return true
		}
		for _, x[v] = range p.Values[v] {
			if from(v + 1) {
				return true
			}
		}
		return false
	}
	if !from(0) {
		return nil
	}
	return x
}

func leastPlainly(p api.Puzzle, k int) []int {
	lists := slices.Clone(p.Values)
	for _, value := range p.Values[k] {
		lists[k] = []int{value}
		if x := firstPlainly(api.Puzzle{Values: lists, Cons: p.Cons}); x != nil {
			return x
		}
	}
	return nil
}

// narrowPlainly takes one value away after the other, as long as there is one that goes.
func narrowPlainly(p api.Puzzle) ([][]int, bool) {
	lists := make([][]int, len(p.Values))
	for v, list := range p.Values {
		lists[v] = slices.Clone(list)
	}
	for going := true; going; {
		if slices.ContainsFunc(lists, isNone) {
			return nil, false
		}
		going = false
		for _, con := range p.Cons {
			for i, v := range con.Vars {
				at := slices.IndexFunc(lists[v], func(value int) bool { return goes(con, lists, i, value) })
				if at >= 0 && len(lists[v]) == 1 {
					return nil, false
				}
				if at >= 0 {
					lists[v], going = slices.Delete(lists[v], at, at+1), true
				}
			}
		}
	}
	return lists, true
}

func isNone(list []int) bool { return len(list) == 0 }

// goes is whether a value of the i-th of Vars goes by a constraint.
func goes(con api.Con, lists [][]int, i, value int) bool {
	own := make([][]int, len(con.Vars))
	for j, v := range con.Vars {
		own[j] = lists[v]
	}
	switch con.Kind {
	case api.ConDiffer:
		own[i] = []int{value}
		found := false
		every(own, func(x []int) bool {
			found = keepsCon(con, x)
			return !found
		})
		return !found
	case api.ConSum:
		least, most := 0, 0
		for j, list := range own {
			one, other := con.Nums[j]*slices.Min(list), con.Nums[j]*slices.Max(list)
			if j != i {
				least, most = least+min(one, other), most+max(one, other)
			}
		}
		rest := con.Limit - con.Nums[i]*value
		return rest < least || rest > most
	case api.ConTable:
		return !slices.ContainsFunc(con.Rows, func(row []int) bool { return row[i] == value && rowIsLeft(con, own, row) })
	case api.ConElement:
		return elementGoes(own, i, value)
	}
	return shareGoes(con, own, i, value)
}

func rowIsLeft(con api.Con, own [][]int, row []int) bool {
	for j, list := range own {
		if !slices.Contains(list, row[j]) {
			return false
		}
		for k := range j {
			if con.Vars[j] == con.Vars[k] && row[j] != row[k] {
				return false
			}
		}
	}
	return true
}

func elementGoes(own [][]int, i, value int) bool {
	behind := own[2:]
	at := func(place int) []int {
		if place < 0 || place >= len(behind) {
			return nil
		}
		return behind[place]
	}
	switch i {
	case 0:
		return !slices.ContainsFunc(at(value), func(x int) bool { return slices.Contains(own[1], x) })
	case 1:
		return !slices.ContainsFunc(own[0], func(place int) bool { return slices.Contains(at(place), value) })
	}
	return len(own[0]) == 1 && own[0][0] == i-2 && !slices.Contains(own[1], value)
}

func shareGoes(con api.Con, own [][]int, i, value int) bool {
	if con.Nums[i] == 0 || con.Uses[i] == 0 {
		return false
	}
	for moment := value; moment < value+con.Nums[i]; moment++ {
		use := con.Uses[i]
		for j, list := range own {
			if j != i && slices.Max(list) <= moment && slices.Min(list)+con.Nums[j] > moment {
				use += con.Uses[j]
			}
		}
		if use > con.Limit {
			return true
		}
	}
	return false
}
