package nets

import (
	"slices"

	"optima/ratio"
	"optima/whole"
)

// net is what the arcs still have room for.
//
// Each arc is two lines: line 2i goes along arc i, line 2i+1 against it, and takes back what the first one has taken: so its room is just that.
type net struct {
	from, to []int     // of each line
	room     []whole.Z // of each line
	leaving  [][]int   // of each node the lines
}

// netOf is a net whose arcs take nothing yet.
func netOf(nodes int, arcs []Arc, caps []whole.Z) *net {
	n := &net{leaving: make([][]int, nodes)}
	for i, arc := range arcs {
		n.join(arc.From, arc.To, caps[i])
	}
	return n
}

func (n *net) join(from, to int, room whole.Z) {
	line := len(n.room)
	n.from, n.to = append(n.from, from, to), append(n.to, to, from)
	n.room = append(n.room, room, whole.Z{})
	n.leaving[from] = append(n.leaving[from], line)
	n.leaving[to] = append(n.leaving[to], line+1)
}

func (n *net) isOpen(line int) bool { return n.room[line].Sign() > 0 }

// move lets a line take so much more.
func (n *net) move(line int, much whole.Z) {
	n.room[line] = n.room[line].Sub(much)
	n.room[line^1] = n.room[line^1].Add(much)
}

// flow is what each arc takes. Of one that is full no lowest terms need be looked for.
func (n *net) flow(arcs []Arc, amounts parts) []ratio.R {
	out := each(arcs, capOf)
	for i := range out {
		if n.isOpen(2 * i) {
			out[i] = amounts.fraction(n.room[2*i+1])
		}
	}
	return out
}

// levels is over how many open lines each node is reached from s; -1: it is not.
func (n *net) levels(s int) []int {
	level := repeat(-1, len(n.leaving))
	level[s] = 0
	reached := []int{s}
	for i := 0; i < len(reached); i++ {
		for _, line := range n.leaving[reached[i]] {
			if to := n.to[line]; n.isOpen(line) && level[to] < 0 {
				level[to] = level[reached[i]] + 1
				reached = append(reached, to)
			}
		}
	}
	return level
}

// reached is which nodes are reached from s over open lines.
func (n *net) reached(s int) []bool {
	return each(n.levels(s), func(level int) bool { return level >= 0 })
}

// fill moves as much as can be from s to t, and answers how much.
//
// Of all ways the shortest ones are filled first: then there are few rounds, however great the numbers are.
func (n *net) fill(s, t int) whole.Z {
	var sum whole.Z
	for {
		level := n.levels(s)
		if level[t] < 0 {
			return sum
		}
		w := walkOf(n, func(line int) bool { return level[n.to[line]] == level[n.from[line]]+1 })
		sum = sum.Add(w.fillAll(s, func(at int) int {
			if at == t {
				return 0
			}
			return -1
		}))
	}
}

// supplied is a net where each node sends its stock more than it gets; or nil, and the nodes that have more than leaves them. The stock is 0 in sum.
func supplied(nodes int, arcs []Arc, caps, stock []whole.Z) (*net, []bool) {
	source, sink := nodes, nodes+1 // nodes beside the others, from which comes what is sent, and to which it goes
	wide := netOf(nodes+2, arcs, caps)
	for at, much := range stock {
		if much.Sign() > 0 {
			wide.join(source, at, much)
		} else {
			wide.join(at, sink, much.Neg())
		}
	}
	wide.fill(source, sink)
	if slices.ContainsFunc(wide.leaving[source], wide.isOpen) {
		return nil, wide.reached(source)[:nodes]
	}
	n := netOf(nodes, arcs, caps)
	copy(n.room, wide.room)
	return n, nil
}
