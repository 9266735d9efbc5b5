package plan

import (
	"slices"

	"optima/api"
)

// apart is how long those jobs, from one on, take together that take longest of all of which no two can run at once, nor any beside some others: within a lesser span they cannot be done.
func apart(p api.Plan, from int, others []int) int {
	most := 0
	for j := from; j < len(p.Jobs); j++ {
		beside := func(i int) bool { return canBoth(p, i, j) }
		if !slices.ContainsFunc(others, beside) {
			most = max(most, p.Jobs[j].Long+apart(p, j+1, append(slices.Clip(others), j)))
		}
	}
	return most
}

// canBoth is whether a job can run while another one behind it does.
func canBoth(p api.Plan, i, j int) bool {
	if slices.Contains(p.Jobs[j].After, i) {
		return false
	}
	for kind, most := range p.Caps {
		if p.Jobs[i].Uses[kind]+p.Jobs[j].Uses[kind] > most {
			return false
		}
	}
	return true
}
