package plan

import "optima/api"

// areInTime is whether no job begins at a moment that there is not, or ahead of the end of one that it waits for.
func areInTime(p api.Plan, starts []int) bool {
	for j, job := range p.Jobs {
		if !isWithin(starts[j], 0, api.MaxAbs) || starts[j] < ready(p, job, starts) {
			return false
		}
	}
	return true
}

// ready is when all that a job waits for are done.
func ready(p api.Plan, job api.Job, starts []int) int {
	at := 0
	for _, a := range job.After {
		at = max(at, starts[a]+p.Jobs[a].Long)
	}
	return at
}

// haveEnough is whether never more is used than there is. Only where a job begins can more be used than ahead of it.
func haveEnough(p api.Plan, starts []int) bool {
	for _, moment := range starts {
		for kind, most := range p.Caps {
			if usedAt(p, starts, kind, moment) > most {
				return false
			}
		}
	}
	return true
}

// usedAt is how much of a kind those jobs use that run at a moment.
func usedAt(p api.Plan, starts []int, kind, moment int) int {
	sum := 0
	for j, job := range p.Jobs {
		if starts[j] <= moment && moment < starts[j]+job.Long {
			sum += job.Uses[kind]
		}
	}
	return sum
}
