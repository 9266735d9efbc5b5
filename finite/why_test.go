package finite

import (
	"slices"
	"testing"

	"optima/api"
)

// TestWhy: what is blamed had gone before, and with it the rule lets none of the answered places be, whatever else is chosen.
func TestWhy(t *testing.T) {
	s := scatter(987654321)
	seen := make([]int, api.ConShare+1)
	for range 30000 {
		lists := s.lists(1+s.below(4), 5)
		if slices.ContainsFunc(lists, isNone) {
			continue
		}
		con := s.con(len(lists))
		b := boardOf(lists)
		r := ruleOf(con)
		r.lay(b)
		for v := range lists {
			s.takeSome(b, v)
		}
		b.by = r
		for range 3 {
			if !r.narrow(b) {
				break
			}
		}
		for len(b.steps) > 0 && b.steps[len(b.steps)-1].by != nil {
			last := b.steps[len(b.steps)-1]
			b.steps = b.steps[:len(b.steps)-1]
			b.left[last.v] = b.left[last.v].or(last.gone)
			s.askWhy(t, con, r, b, last)
			seen[con.Kind]++
		}
	}
	for kind := api.ConDiffer; kind <= api.ConShare; kind++ {
		if seen[kind] < 500 {
			t.Errorf("kind %d: %d steps", kind, seen[kind])
		}
	}
}

// takeSome takes some places away, as if by choice, but not all.
func (s *scatter) takeSome(b *board, v int) {
	var gone set
	for at := range b.lists[v] {
		if s.below(3) == 0 {
			gone.add(at)
		}
	}
	if !b.left[v].less(gone).isEmpty() {
		b.drop(v, gone)
	}
}

func (s *scatter) askWhy(t *testing.T, con api.Con, r rule, b *board, last step) {
	t.Helper()
	asked := last.gone
	for at := last.gone.first(); at >= 0; at = last.gone.next(at + 1) {
		if s.below(3) == 0 && asked.first() != asked.last() {
			asked = asked.less(only(at))
		}
	}
	blamed := make([]set, len(b.lists))
	not := r.why(b, last.v, asked, func(v int, gone set) {
		if gone.meets(b.left[v]) {
			t.Fatalf("%+v, %v: blames what is left", con, b.lists)
		}
		blamed[v] = blamed[v].or(gone)
	})
	if !not.meets(asked) {
		t.Fatalf("%+v, %v: does not answer", con, b.lists)
	}
	every(b.lists, func(x []int) bool {
		for v, value := range x {
			at := slices.Index(b.lists[v], value)
			if blamed[v].has(at) || v == last.v && !not.has(at) {
				return true
			}
		}
		if r.keeps(x) {
			t.Fatalf("%+v, %v, variable %d, left %v: %v can be", con, b.lists, last.v, b.values(), x)
		}
		return true
	})
}

func TestSet(t *testing.T) {
	for _, at := range []int{0, 1, 62, 63, 64, 65, 127, 128, 191, 192, api.MaxVals - 1} {
		s := only(at)
		if !s.has(at) || s.first() != at || s.last() != at || s.next(at) != at || s.next(at+1) != -1 || !s.isOne() || s.isEmpty() {
			t.Errorf("only %d: %v", at, s)
		}
		all := upTo(at + 1)
		if all.first() != 0 || all.last() != at || !all.meets(s) || all.less(s).has(at) || all.less(s).or(s) != all || all.and(s) != s {
			t.Errorf("up to %d: %v", at, all)
		}
	}
	var none set
	if !none.isEmpty() || none.first() != -1 || none.last() != -1 || none.meets(upTo(api.MaxVals)) || upTo(0) != none {
		t.Error("nothing")
	}
}
