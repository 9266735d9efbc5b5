package finite

import (
	"cmp"
	"slices"
)

// lesson is that of some variables one must stand at a place that is good for it.
type lesson struct {
	terms []term
	used  int // for which lesson it has been of use the last time
	gone  bool
}

type term struct {
	v    int
	good set
}

// lessonOf is the lesson of what is good for each variable, with the term of v as the first one.
func lessonOf(good []set, v int) *lesson {
	l := &lesson{terms: []term{{v, good[v]}}}
	for w, places := range good {
		if w != v && !places.isEmpty() {
			l.terms = append(l.terms, term{w, places})
		}
	}
	return l
}

func (l *lesson) why(b *board, v int, _ set, blame func(v int, gone set)) set {
	l.used = b.learned
	var out set
	for _, t := range l.terms {
		if t.v == v {
			out = b.root[v].less(t.good)
		} else {
			blame(t.v, t.good)
		}
	}
	return out
}

// room is how many lessons are kept.
const room = 2000

// memory is lessons. Of the first two terms of each one a good place is watched: as long as both are left, it has nothing to say.
type memory struct {
	lessons []*lesson
	watched [][][]*lesson // of each variable, and each place of its list, the lessons
}

func memoryOf(lists [][]int) memory {
	m := memory{watched: make([][][]*lesson, len(lists))}
	for v, list := range lists {
		m.watched[v] = make([][]*lesson, len(list))
	}
	return m
}

func (m *memory) watch(l *lesson, v, at int) { m.watched[v][at] = append(m.watched[v][at], l) }

// remember keeps a lesson that has something to say now, but had not before, when more was left.
func (m *memory) remember(l *lesson, now, before []set) {
	m.forget()
	m.lessons = append(m.lessons, l)
	first := l.terms[0]
	m.watch(l, first.v, first.good.and(now[first.v]).first())
	for i, t := range l.terms[1:] {
		if at := t.good.and(before[t.v]).first(); at >= 0 {
			l.terms[1], l.terms[i+1] = t, l.terms[1]
			m.watch(l, t.v, at)
			return
		}
	}
}

// forget makes room, if there is none: those go that have not been of use for long.
func (m *memory) forget() {
	if len(m.lessons) < room {
		return
	}
	slices.SortStableFunc(m.lessons, func(a, b *lesson) int { return cmp.Compare(b.used, a.used) })
	for _, l := range m.lessons[room/2:] {
		l.gone = true
	}
	m.lessons = m.lessons[:room/2]
	for _, places := range m.watched {
		for at := range places {
			places[at] = slices.DeleteFunc(places[at], func(l *lesson) bool { return l.gone })
		}
	}
}

// recall lets the lessons that watch a place which has gone say what they have to; false, if nothing is left of a list.
func (m *memory) recall(b *board, v, at int) bool {
	list := m.watched[v][at]
	kept := list[:0]
	for n, l := range list {
		if l.terms[0].v == v {
			l.terms[0], l.terms[1] = l.terms[1], l.terms[0]
		}
		bad := b.left[l.terms[0].v].less(l.terms[0].good)
		if !bad.isEmpty() && m.watchAnother(b, l) {
			continue
		}
		kept = append(kept, l)
		b.by = l
		if !b.drop(l.terms[0].v, bad) {
			m.watched[v][at] = append(kept, list[n+1:]...)
			return false
		}
	}
	m.watched[v][at] = kept
	return true
}

// watchAnother watches a place that is left instead of one of the second term; false, if there is none.
func (m *memory) watchAnother(b *board, l *lesson) bool {
	for i, t := range l.terms[1:] {
		if at := t.good.and(b.left[t.v]).first(); at >= 0 {
			l.terms[1], l.terms[i+1] = t, l.terms[1]
			m.watch(l, t.v, at)
			return true
		}
	}
	return false
}
