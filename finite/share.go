package finite

import (
	"cmp"
	"math"
	"slices"
)

// share is that those who run never use more than the limit.
type share struct {
	over
	nums, uses []int
	limit      int64
}

// span is moments, from one on, before another, and what is used then.
type span struct {
	from, to int
	use      int64
}

func (s span) has(moment int) bool { return s.from <= moment && moment < s.to }

// turn is a moment from which on so much more is used.
type turn struct {
	at   int
	more int64
}

// together is spans one behind the other, with what is used by all.
func together(runs []span) []span {
	var turns []turn
	for _, run := range runs {
		if run.from < run.to {
			turns = append(turns, turn{run.from, run.use}, turn{run.to, -run.use})
		}
	}
	slices.SortFunc(turns, func(a, b turn) int { return cmp.Compare(a.at, b.at) })
	var out []span
	use := int64(0)
	for i, t := range turns {
		use += t.more
		if i+1 < len(turns) && t.at < turns[i+1].at {
			out = append(out, span{t.at, turns[i+1].at, use})
		}
	}
	return out
}

func (s *share) keeps(x []int) bool {
	runs := make([]span, len(s.vars))
	for i, begin := range s.pick(x) {
		runs[i] = span{begin, begin + s.nums[i], int64(s.uses[i])}
	}
	return !slices.ContainsFunc(together(runs), func(all span) bool { return all.use > s.limit })
}

func (s *share) narrow(b *board) bool {
	sure := s.sure(b)
	all := together(sure)
	for i, v := range s.vars {
		if !s.matters(i) {
			continue
		}
		closed := s.closed(i, sure[i], all)
		open := func(at int) bool {
			_, crossed := s.crossed(i, b.lists[v][at], closed)
			return !crossed
		}
		if len(closed) > 0 && !b.keep(v, open) {
			return false
		}
	}
	return true
}

// matters is whether the i-th one uses something at some moment.
func (s *share) matters(i int) bool { return s.nums[i] > 0 && s.uses[i] > 0 }

// sure is when each one runs in any case.
func (s *share) sure(b *board) []span {
	out := make([]span, len(s.vars))
	for i, v := range s.vars {
		out[i] = span{b.greatest(v), b.least(v) + s.nums[i], int64(s.uses[i])}
	}
	return out
}

// closed is when the i-th one cannot run, since others do in any case; all are those with it, own is when it does itself.
func (s *share) closed(i int, own span, all []span) []span {
	use := int64(s.uses[i])
	if use > s.limit {
		return []span{{math.MinInt, math.MaxInt, use}}
	}
	var out []span
	for _, a := range all {
		if !own.has(a.from) {
			a.use += use
		}
		if a.use > s.limit {
			out = append(out, a)
		}
	}
	return out
}

// crossed is the first moment of spans at which the i-th one runs, if it begins at this value; false, if there is none.
func (s *share) crossed(i, value int, spans []span) (int, bool) {
	for _, a := range spans {
		if a.from < value+s.nums[i] && value < a.to {
			return max(value, a.from), true
		}
	}
	return 0, false
}

func (s *share) why(b *board, v int, asked set, blame func(v int, gone set)) set {
	sure := s.sure(b)
	all := together(sure)
	value := b.lists[v][asked.first()]
	for i, w := range s.vars {
		if w != v || !s.matters(i) {
			continue
		}
		if moment, crossed := s.crossed(i, value, s.closed(i, sure[i], all)); crossed {
			s.blameOthers(b, i, moment, sure, blame)
			return b.places(v, func(value int) bool { return value <= moment && moment < value+s.nums[i] })
		}
	}
	return set{}
}

// blameOthers blames that all but the i-th one who do so run at a moment in any case. Those who are not needed for it to be too much are spared, from the last one on.
func (s *share) blameOthers(b *board, i, moment int, sure []span, blame func(v int, gone set)) {
	spare := int64(s.uses[i]) - s.limit - 1
	for j, run := range sure {
		if j != i && run.has(moment) {
			spare += run.use
		}
	}
	for j, run := range slices.Backward(sure) {
		switch v := s.vars[j]; {
		case j == i || !run.has(moment):
		case run.use <= spare:
			spare -= run.use
		default:
			blame(v, b.places(v, func(value int) bool { return value > moment || value+s.nums[j] <= moment }))
		}
	}
}
