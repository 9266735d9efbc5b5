package plan

import "optima/api"

func isWithin(number, low, high int) bool { return low <= number && number <= high }

// validCaps is what is wrong with how many jobs and caps there are, or with a cap, if anything is.
func validCaps(p api.Plan) error {
	if len(p.Jobs) > api.MaxJobs || len(p.Caps) > api.MaxJobs {
		return api.ErrBound
	}
	for _, most := range p.Caps {
		if !isWithin(most, 0, api.MaxAbs) {
			return api.ErrBound
		}
	}
	return nil
}

// validJob is what is wrong with a job that has so many ahead of it, if anything is.
func validJob(job api.Job, ahead int, caps []int) error {
	if !isWithin(job.Long, 0, api.MaxSpan) || len(job.After) > api.MaxJobs {
		return api.ErrBound
	}
	if len(job.Uses) != len(caps) {
		return api.ErrShape
	}
	for kind, use := range job.Uses {
		if !isWithin(use, 0, caps[kind]) {
			return api.ErrShape
		}
	}
	for _, a := range job.After {
		if !isWithin(a, 0, ahead-1) {
			return api.ErrShape
		}
	}
	return nil
}

// validSizes is what is wrong with sizes to be cut from such rolls, if anything is.
func validSizes(roll int, sizes []api.Size) error {
	if !isWithin(roll, 1, api.MaxRoll) || len(sizes) > api.MaxSizes {
		return api.ErrBound
	}
	for _, size := range sizes {
		if !isWithin(size.Want, 0, api.MaxAbs) {
			return api.ErrBound
		}
		if !isWithin(size.Long, 1, roll) {
			return api.ErrShape
		}
	}
	return nil
}
