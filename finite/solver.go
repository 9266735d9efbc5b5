package finite

import (
	"slices"

	"optima/api"
)

// solver is a board, the rules that lie on it, the choices that have been made, and what has been learned from wrong ones.
type solver struct {
	*board
	memory
	rules   []rule
	on      [][]int // of each variable the rules over it
	waiting []int   // the rules that are to be looked at
	waits   []bool  // of each rule whether it is among them
	told    int     // so many steps are known to lessons and rules
	levels  []level
}

// level is what was left ahead of a choice, and how many steps there were.
type level struct {
	left  []set
	steps int
}

func solverOf(p api.Puzzle) *solver {
	s := &solver{board: boardOf(p.Values), memory: memoryOf(p.Values), rules: rulesOf(p), on: make([][]int, len(p.Values)), waits: make([]bool, len(p.Cons))}
	for i, con := range p.Cons {
		s.rules[i].lay(s.board)
		s.wake(i)
		for _, v := range con.Vars {
			if !slices.Contains(s.on[v], i) {
				s.on[v] = append(s.on[v], i)
			}
		}
	}
	return s
}

// wake lets a rule be looked at.
func (s *solver) wake(i int) {
	if !s.waits[i] {
		s.waits[i] = true
		s.waiting = append(s.waiting, i)
	}
}

// settle takes away what cannot be by one rule or lesson, until there is nothing of that kind; false, if nothing is left of a list.
func (s *solver) settle() bool {
	for s.tell() {
		if len(s.waiting) == 0 {
			return true
		}
		i := s.waiting[0]
		s.waiting, s.waits[i] = s.waiting[1:], false
		s.by = s.rules[i]
		if !s.rules[i].narrow(s.board) {
			return false
		}
	}
	return false
}

// tell lets lessons and rules know of the latest steps; false, if nothing is left of a list.
func (s *solver) tell() bool {
	for ; s.told < len(s.steps); s.told++ {
		last := s.steps[s.told]
		for at := last.gone.first(); at >= 0; at = last.gone.next(at + 1) {
			if !s.recall(s.board, last.v, at) {
				return false
			}
		}
		for _, i := range s.on[last.v] {
			s.wake(i)
		}
	}
	return true
}

// solve is whether values keep all rules that are over variables; then the first ones, by the variables in this order, are all that is left.
//
// Each choice is the least value of the first variable that has more than one. What has gone ahead of it cannot be together with the choices before: so nothing that is lesser is passed over. It ends, since a lesson takes something more away behind choices that stay.
func (s *solver) solve(order []int) bool {
	for good := s.isOpen() && s.settle(); good; {
		i := slices.IndexFunc(order, func(v int) bool { return !s.left[v].isOne() })
		if i < 0 {
			return true
		}
		s.choose(order[i])
		good = s.settle()
		for !good && s.learn() {
			good = s.settle()
		}
	}
	return false
}

// choose lets a variable have its least value.
func (s *solver) choose(v int) {
	if len(s.levels) == 0 {
		copy(s.root, s.left)
	}
	s.levels = append(s.levels, level{slices.Clone(s.left), len(s.steps)})
	s.by = nil
	s.drop(v, s.left[v].less(only(s.left[v].first())))
}
