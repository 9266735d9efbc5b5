package branch

import "slices"

// stack is things of which the one that came last goes first.
type stack[T any] struct{ things []T }

func (s *stack[T]) push(thing T) { s.things = append(s.things, thing) }

// pop takes the last thing; false, if there is none.
func (s *stack[T]) pop() (T, bool) {
	var last T
	if s.empty() {
		return last, false
	}
	at := len(s.things) - 1
	last, s.things = s.things[at], s.things[:at]
	return last, true
}

func (s *stack[T]) empty() bool { return len(s.things) == 0 }

// lift lets the thing that is ahead of all others be the next one.
func (s *stack[T]) lift(order func(a, b T) int) {
	first := 0
	for i, thing := range s.things {
		if order(thing, s.things[first]) < 0 {
			first = i
		}
	}
	if !s.empty() {
		thing := s.things[first]
		s.things = append(slices.Delete(s.things, first, first+1), thing)
	}
}
