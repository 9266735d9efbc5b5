package plan

import (
	"slices"
	"testing"

	"optima/api"
)

// scatter makes plans and sizes out of a fixed rule.
type scatter uint64

func (s *scatter) below(n int) int {
	*s ^= *s << 13
	*s ^= *s >> 7
	*s ^= *s << 17
	return int(uint64(*s) % uint64(n))
}

// plan is jobs that take from 0 to so long, as far as there is time for them.
func (s *scatter) plan(jobs, kinds, long, time int) api.Plan {
	var p api.Plan
	for range kinds {
		p.Caps = append(p.Caps, s.below(5))
	}
	waits := 2 + s.below(6)
	for j := range jobs {
		job := api.Job{Long: min(s.below(long+1), time)}
		time -= job.Long
		for _, most := range p.Caps {
			job.Uses = append(job.Uses, s.below(most+1))
		}
		for a := range j {
			if s.below(waits) == 0 {
				job.After = append(job.After, a)
			}
		}
		p.Jobs = append(p.Jobs, job)
	}
	return p
}

// spanPlainly looks at every moment, of the jobs that have starts.
func spanPlainly(p api.Plan, starts []int) (int, bool) {
	end := 0
	for j, at := range starts {
		for _, a := range p.Jobs[j].After {
			if at < starts[a]+p.Jobs[a].Long {
				return 0, false
			}
		}
		if at < 0 {
			return 0, false
		}
		end = max(end, at+p.Jobs[j].Long)
	}
	for moment := range end {
		rest := slices.Clone(p.Caps)
		for j, at := range starts {
			for past := range p.Jobs[j].Long {
				if at+past != moment {
					continue
				}
				for kind, use := range p.Jobs[j].Uses {
					rest[kind] -= use
				}
			}
		}
		if slices.ContainsFunc(rest, func(n int) bool { return n < 0 }) {
			return 0, false
		}
	}
	return end, true
}

// leastPlainly takes all starts in order, span by span; those that are wrong already are not gone on with.
func leastPlainly(p api.Plan) ([]int, int) {
	for span := 0; ; span++ {
		var first []int
		var walk func(starts []int) bool
		walk = func(starts []int) bool {
			if end, ok := spanPlainly(p, starts); !ok || end > span {
				return false
			}
			if len(starts) == len(p.Jobs) {
				first = slices.Clone(starts)
				return true
			}
			for at := range span + 1 {
				if walk(append(slices.Clip(starts), at)) {
					return true
				}
			}
			return false
		}
		if walk(nil) {
			return first, span
		}
	}
}

func TestSpanOfMany(t *testing.T) {
	s := scatter(88172645463325252)
	good := 0
	for range 30000 {
		p := s.plan(s.below(8), s.below(4), 4, 30)
		starts := make([]int, len(p.Jobs))
		wide := 1 + s.below(20)
		for j := range starts {
			starts[j] = s.below(wide) - s.below(40)/39
		}
		want, yes := spanPlainly(p, starts)
		if !yes {
			want = 0
		} else {
			good++
		}
		if n, ok, err := Span(p, starts); n != want || ok != yes || err != nil {
			t.Fatalf("%+v, %v: %d, %v, %v; it must be %d, %v", p, starts, n, ok, err, want, yes)
		}
	}
	if good < 3000 {
		t.Error("few are good:", good)
	}
}

func leastIsPlain(t *testing.T, p api.Plan) {
	t.Helper()
	want, least := leastPlainly(p)
	x, span, err := Least(p)
	if !slices.Equal(x, want) || span != least || err != nil {
		t.Fatalf("%+v: %v, %d, %v; it must be %v, %d", p, x, span, err, want, least)
	}
}

func TestLeastOfMany(t *testing.T) {
	s := scatter(2463534242)
	for range 10000 {
		leastIsPlain(t, s.plan(s.below(6), s.below(4), 4, 10))
	}
	for range 2000 {
		leastIsPlain(t, s.plan(api.MaxJobs, 1+s.below(3), 2, 8))
	}
}

// TestLeastHasNoEarlier: of as many jobs as there may be, no start can be earlier while those ahead of it stay, and the span is no greater.
func TestLeastHasNoEarlier(t *testing.T) {
	s := scatter(1234567)
	for range 3000 {
		p := s.plan(api.MaxJobs, 1+s.below(api.MaxJobs), 2+s.below(7), api.MaxSpan)
		x, span, err := Least(p)
		if n, ok := spanPlainly(p, x); err != nil || !ok || n != span {
			t.Fatalf("%+v: %v, %d, %v", p, x, span, err)
		}
		for range 30 { // orders, each job as early as it can be
			if y := s.anyOrder(p); y < span {
				t.Fatalf("%+v: %d, but there is %d", p, span, y)
			}
		}
		for j := range x {
			y := slices.Clone(x)
			for y[j] > 0 {
				y[j]--
				if n, ok := spanPlainly(p, y); ok && n <= span {
					t.Fatalf("%+v: %v, but also %v", p, x, y)
				}
			}
		}
	}
}

// anyOrder is the span when jobs begin, in some order, each as early as it can.
func (s *scatter) anyOrder(p api.Plan) int {
	many := len(p.Jobs)
	sofar := api.Plan{Jobs: make([]api.Job, many), Caps: p.Caps} // those that have not begun take no time
	starts, begun := make([]int, many), make([]bool, many)
	for slices.Contains(begun, false) {
		j := s.below(many)
		if begun[j] || slices.ContainsFunc(p.Jobs[j].After, func(a int) bool { return !begun[a] }) {
			continue
		}
		sofar.Jobs[j], begun[j] = p.Jobs[j], true
		for ok := false; !ok; starts[j]++ {
			if _, ok = spanPlainly(sofar, starts); ok {
				starts[j]--
			}
		}
	}
	end, _ := spanPlainly(p, starts)
	return end
}

// TestHardPlans: two at a time, three at a time, and jobs that take no time ahead of those that are hard.
func TestHardPlans(t *testing.T) {
	for _, c := range []struct {
		longs []int
		use   int
		x     []int
		span  int
	}{
		{[]int{4, 4, 4, 4, 4, 4, 4}, 4, []int{0, 0, 4, 4, 8, 8, 12}, 16},
		{[]int{3, 3, 3, 3, 3, 4, 4}, 4, []int{0, 0, 3, 6, 9, 3, 7}, 12},
		{[]int{5, 5, 4, 4, 3, 3, 6}, 4, []int{0, 0, 5, 5, 9, 12, 9}, 15},
		{[]int{5, 5, 4, 4, 3, 3, 6}, 3, []int{0, 5, 0, 0, 4, 7, 4}, 10},
		{[]int{5, 5, 4, 4, 3, 3, 6}, 6, []int{0, 5, 10, 14, 18, 21, 24}, 30},
		{[]int{0, 0, 0, 8, 8, 7, 7}, 4, []int{0, 0, 0, 0, 0, 8, 8}, 15},
	} {
		p := longs(c.longs...)
		p.Caps = []int{10}
		for j := range p.Jobs {
			p.Jobs[j].Uses = []int{c.use}
		}
		x, span, err := Least(p)
		if !slices.Equal(x, c.x) || span != c.span || err != nil {
			t.Errorf("%v, %d: %v, %d, %v", c.longs, c.use, x, span, err)
		}
	}
}
