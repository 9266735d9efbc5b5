package plan

import (
	"slices"

	"optima/api"
)

// roster gives jobs their starts, so that all are done within a span.
type roster struct {
	p      api.Plan
	tails  []int // of each job how long it takes from its beginning on until those are done that wait for it, and those that wait for these
	span   int
	starts []int
	begun  []bool                        // which jobs have a start
	used   [api.MaxSpan][api.MaxJobs]int // of each moment how much of each kind is used
}

// rosterOf is one whose span no plan of these jobs can be below.
func rosterOf(p api.Plan) *roster {
	many := len(p.Jobs)
	r := &roster{p: p, tails: make([]int, many), span: apart(p, 0, nil), starts: make([]int, many), begun: make([]bool, many)}
	for j, job := range slices.Backward(p.Jobs) {
		r.tails[j] += job.Long
		for _, a := range job.After {
			r.tails[a] = max(r.tails[a], r.tails[j])
		}
		r.span = max(r.span, r.tails[j])
	}
	return r
}

// fill gives all jobs the first starts by which they are done within the span; false, if there are none.
func (r *roster) fill() bool {
	clear(r.starts)
	if !r.canEnd(0, 0) {
		return false
	}
	for j := range r.p.Jobs {
		r.settle(j)
	}
	return true
}

// settle begins a job as early as it can be, so that those behind it, too, can be done within the span.
func (r *roster) settle(j int) {
	for at := ready(r.p, r.p.Jobs[j], r.starts); at <= r.latest(j); at++ {
		if !r.hasRoom(j, at) {
			continue
		}
		r.begin(j, at)
		if r.canEnd(0, 0) {
			return
		}
		r.takeBack(j)
	}
}

// canEnd is whether all jobs that have no start can be done within the span, when they get one in the order in which they begin, the next not ahead of a moment, and, of those that begin together, not ahead of a job.
//
// If it can be at all, then also so that none could begin earlier while the others stay: then each begins as early as those ahead of it in the order allow, so that the order alone has to be looked for.
func (r *roster) canEnd(moment, first int) bool {
	if !slices.Contains(r.begun, false) {
		return true
	}
	for j, job := range r.p.Jobs {
		if r.begun[j] || !r.isFree(job) {
			continue
		}
		at := r.earliest(j)
		if at > r.latest(j) { // those that get their starts ahead of it would not make it earlier
			return false
		}
		if at < moment || at == moment && j < first {
			continue
		}
		r.begin(j, at)
		ends := r.canEnd(at, j)
		r.takeBack(j)
		if ends {
			return true
		}
	}
	return false
}

// isFree is whether all that a job waits for have their starts.
func (r *roster) isFree(job api.Job) bool {
	return !slices.ContainsFunc(job.After, func(a int) bool { return !r.begun[a] })
}

// earliest is when a job can begin beside those that have their starts; beyond the latest moment it does not matter when.
func (r *roster) earliest(j int) int {
	at := ready(r.p, r.p.Jobs[j], r.starts)
	for at <= r.latest(j) && !r.hasRoom(j, at) {
		at++
	}
	return at
}

// latest is when a job must begin at last.
func (r *roster) latest(j int) int { return r.span - r.tails[j] }

// hasRoom is whether there is enough for a job that begins at a moment, not behind its latest one.
func (r *roster) hasRoom(j, at int) bool {
	job := r.p.Jobs[j]
	for _, used := range r.used[at : at+job.Long] {
		for kind, use := range job.Uses {
			if used[kind]+use > r.p.Caps[kind] {
				return false
			}
		}
	}
	return true
}

func (r *roster) begin(j, at int) {
	r.starts[j], r.begun[j] = at, true
	r.use(j, 1)
}

func (r *roster) takeBack(j int) {
	r.begun[j] = false
	r.use(j, -1)
}

// use counts what a job uses so many times more.
func (r *roster) use(j, times int) {
	job := r.p.Jobs[j]
	for moment := range job.Long {
		for kind, use := range job.Uses {
			r.used[r.starts[j]+moment][kind] += times * use
		}
	}
}
