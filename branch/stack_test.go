package branch

import (
	"cmp"
	"testing"
)

func TestStack(t *testing.T) {
	var s stack[int]
	s.lift(cmp.Compare[int])
	if n, some := s.pop(); n != 0 || some || !s.empty() {
		t.Errorf("%d, %v", n, some)
	}
	for _, n := range []int{5, 3, 8, 2, 9, 2} {
		s.push(n)
	}
	s.lift(cmp.Compare[int])
	for _, want := range []int{2, 2, 9, 8, 3, 5} {
		if n, some := s.pop(); n != want || !some {
			t.Errorf("%d, %v, want %d", n, some, want)
		}
	}
	if !s.empty() {
		t.Error("more than was there")
	}
	s.push(1)
	s.push(7)
	s.lift(func(a, b int) int { return cmp.Compare(b, a) })
	if n, _ := s.pop(); n != 7 {
		t.Error(n)
	}
	s.push(0)
	s.lift(func(a, b int) int { return cmp.Compare(b, a) })
	if n, _ := s.pop(); n != 1 {
		t.Error(n)
	}
}
