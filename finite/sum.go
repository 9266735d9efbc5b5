package finite

import "slices"

// sum is that numbers times values are together the limit. (That needs no more than 64 bits.)
type sum struct {
	over
	nums  []int
	limit int64
}

func (s *sum) keeps(x []int) bool {
	total := int64(0)
	for i, v := range s.vars {
		total += s.part(i, x[v])
	}
	return total == s.limit
}

func (s *sum) part(i, value int) int64 { return int64(s.nums[i]) * int64(value) }

// ends is the least and the most that the i-th one comes to.
func (s *sum) ends(b *board, i int) (int64, int64) {
	v := s.vars[i]
	one, other := s.part(i, b.least(v)), s.part(i, b.greatest(v))
	return min(one, other), max(one, other)
}

func (s *sum) narrow(b *board) bool {
	least, most := int64(0), int64(0)
	for i := range s.vars {
		low, high := s.ends(b, i)
		least, most = least+low, most+high
	}
	for i, v := range s.vars {
		low, high := s.ends(b, i)
		from, to := s.limit-(most-high), s.limit-(least-low)
		if from <= low && high <= to {
			continue
		}
		good := b.keep(v, func(at int) bool {
			part := s.part(i, b.lists[v][at])
			return from <= part && part <= to
		})
		if !good {
			return false
		}
	}
	return true
}

// why: what is too little is too much of the opposite.
func (s *sum) why(b *board, v int, asked set, blame func(v int, gone set)) set {
	if out := s.tooMuch(b, v, asked, blame); !out.isEmpty() {
		return out
	}
	return s.opposite().tooMuch(b, v, asked, blame)
}

func (s *sum) opposite() *sum {
	nums := make([]int, len(s.nums))
	for i, n := range s.nums {
		nums[i] = -n
	}
	return &sum{s.over, nums, -s.limit}
}

// tooMuch is why; nothing, if no place that is asked about is too much.
func (s *sum) tooMuch(b *board, v int, asked set, blame func(v int, gone set)) set {
	for i, w := range s.vars {
		if w != v {
			continue
		}
		room := s.room(b, i)
		if part, found := s.leastAbove(b, i, asked, room); found {
			spare := s.blameOthers(b, i, part-room-1, blame)
			return b.places(v, func(value int) bool { return s.part(i, value) >= part-spare })
		}
	}
	return set{}
}

// room is what the others leave to the i-th one, each at its least.
func (s *sum) room(b *board, i int) int64 {
	room := s.limit
	for j := range s.vars {
		if low, _ := s.ends(b, j); j != i {
			room -= low
		}
	}
	return room
}

// leastAbove is the least above a number that the i-th one comes to at places; false, if there is none.
func (s *sum) leastAbove(b *board, i int, places set, number int64) (least int64, found bool) {
	for at := places.first(); at >= 0; at = places.next(at + 1) {
		part := s.part(i, b.lists[s.vars[i]][at])
		if part > number && (!found || part < least) {
			least, found = part, true
		}
	}
	return least, found
}

// blameOthers blames that all but the i-th one come to so much. So much less would do as is to spare: that is given away from the last one on; it answers what is still to spare.
func (s *sum) blameOthers(b *board, i int, spare int64, blame func(v int, gone set)) int64 {
	for j, v := range slices.Backward(s.vars) {
		if j == i {
			continue
		}
		low, _ := s.ends(b, j)
		least := low
		blame(v, b.places(v, func(value int) bool {
			part := s.part(j, value)
			if part >= low-spare {
				least = min(least, part)
			}
			return part < low-spare
		}))
		spare -= low - least
	}
	return spare
}
