package nets

import (
	"slices"

	"optima/whole"
)

// walk goes along open lines that are allowed, and fills ways.
//
// A line that is full or leads nowhere is not looked at again: so no line against an allowed one may be allowed.
type walk struct {
	*net
	allowed func(line int) bool
	done    []int // of each node how many of its lines are not looked at again
	path    []int // the lines from where it set out to where it is
}

func walkOf(n *net, allowed func(line int) bool) *walk {
	return &walk{net: n, allowed: allowed, done: repeat(0, len(n.leaving))}
}

// fillAll goes all ways from a node. Where it comes to a node of which closes tells a line of the path, the way from that line on is filled; below 0, it goes on. It answers how much all these ways took.
func (w *walk) fillAll(start int, closes func(at int) int) whole.Z {
	var sum whole.Z
	for {
		at := start
		if len(w.path) > 0 {
			at = w.to[w.path[len(w.path)-1]]
		}
		if first := closes(at); first >= 0 {
			sum = sum.Add(w.fillWay(first))
		} else if !w.goOn(at) && !w.goBack() {
			return sum
		}
	}
}

// fillRings goes all ways from all nodes, and fills those that come back to a node.
func (w *walk) fillRings() {
	for start := range w.leaving {
		w.fillAll(start, func(at int) int {
			return slices.IndexFunc(w.path, func(line int) bool { return w.from[line] == at })
		})
	}
}

// fillWay moves as much as can be along the path from one of its lines on, and goes back to where the first full line begins.
func (w *walk) fillWay(first int) whole.Z {
	way := w.path[first:]
	much := w.room[slices.MinFunc(way, func(a, b int) int { return w.room[a].Cmp(w.room[b]) })]
	for _, line := range way {
		w.move(line, much)
	}
	full := slices.IndexFunc(way, func(line int) bool { return !w.isOpen(line) })
	w.path = w.path[:first+full]
	return much
}

// goOn goes over one more line; false, if none leads on.
func (w *walk) goOn(at int) bool {
	for _, line := range w.leaving[at][w.done[at]:] {
		if w.isOpen(line) && w.allowed(line) {
			w.path = append(w.path, line)
			return true
		}
		w.done[at]++
	}
	return false
}

// goBack leaves the last line for good; false, if there is none.
func (w *walk) goBack() bool {
	if len(w.path) == 0 {
		return false
	}
	last := len(w.path) - 1
	w.done[w.from[w.path[last]]]++
	w.path = w.path[:last]
	return true
}
