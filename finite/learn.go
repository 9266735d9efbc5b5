package finite

import "slices"

// learn sees why nothing is left of a list, takes choices back, and heeds the lesson; false, if it is not because of choices.
//
// The lesson is that places which have gone cannot all have gone. Those that went last are replaced by those that had to go before for that, until the lesson, had it been known, would have had something to say ahead of the last choice.
func (s *solver) learn() bool {
	s.learned++
	gone := make([]set, len(s.lists))
	empty := slices.IndexFunc(s.left, set.isEmpty)
	gone[empty] = s.root[empty]
	for len(s.levels) > 0 {
		if v := speaksOf(gone, s.levels[len(s.levels)-1].left); v >= 0 {
			s.heed(gone, v)
			return true
		}
		s.goBack(gone)
	}
	return false
}

// speaksOf is the variable of which a lesson has something to say, since all others have lost what is good for them; -1, if there is none.
func speaksOf(good, left []set) int {
	found := -1
	for v, places := range good {
		if !places.meets(left[v]) {
			continue
		}
		if found >= 0 {
			return -1
		}
		found = v
	}
	if found >= 0 && left[found].less(good[found]).isEmpty() {
		return -1
	}
	return found
}

// goBack takes steps back, until one matters for the lesson, or a choice is taken back.
func (s *solver) goBack(gone []set) {
	for {
		last := s.steps[len(s.steps)-1]
		s.steps = s.steps[:len(s.steps)-1]
		s.left[last.v] = s.left[last.v].or(last.gone)
		if last.by == nil {
			s.levels = s.levels[:len(s.levels)-1]
			return
		}
		if last.gone.meets(gone[last.v]) {
			s.replace(gone, last)
			return
		}
	}
}

// replace puts in the place of what has gone by a step that which had to go before for it.
func (s *solver) replace(gone []set, last step) {
	for asked := gone[last.v].and(last.gone); !asked.isEmpty(); {
		var own set
		not := last.by.why(s.board, last.v, asked, func(v int, before set) {
			if v == last.v {
				own = own.or(before)
			} else {
				gone[v] = gone[v].or(before.and(s.root[v]))
			}
		})
		gone[last.v] = gone[last.v].less(not.less(own))
		asked = asked.less(not)
	}
}

// heed takes back the choices without which the lesson has the same to say of v, and lets it say that.
func (s *solver) heed(good []set, v int) {
	depth := len(s.levels) - 1
	for depth > 0 && speaksOf(good, s.levels[depth-1].left) == v {
		depth--
	}
	s.takeBack(depth)
	l := lessonOf(good, v)
	l.used = s.learned
	if depth > 0 {
		s.remember(l, s.left, s.levels[depth-1].left)
	}
	s.by = l
	s.drop(v, s.left[v].less(good[v]))
}

// takeBack takes choices back until so many are left.
func (s *solver) takeBack(depth int) {
	was := s.levels[depth]
	copy(s.left, was.left)
	s.steps, s.levels = s.steps[:was.steps], s.levels[:depth]
	s.told = len(s.steps)
	for _, i := range s.waiting {
		s.waits[i] = false
	}
	s.waiting = nil
}
