package simplex

import (
	"slices"
	"testing"

	"optima/ratio"
	"optima/whole"
)

// inLowest is whether a line's denominator is above 0, and nothing but 1 divides it and all numbers.
func inLowest(l line) bool {
	shared := l.over
	for _, z := range l.num {
		shared = shared.Gcd(z)
	}
	return l.over.Sign() > 0 && isOne(shared)
}

func fractions(l line) []ratio.R {
	var out []ratio.R
	for k := range l.num {
		out = append(out, l.at(k))
	}
	return out
}

func TestLineOf(t *testing.T) {
	s := scatter(5)
	for range 500 {
		var list []ratio.R
		for range s.below(6) {
			list = append(list, s.fraction())
		}
		if l := lineOf(list); texts(fractions(l)) != texts(list) || !inLowest(l) {
			t.Fatalf("%s: %+v", texts(list), l)
		}
	}
}

// TestSwaps: columns that change places, held against the same in fractions.
func TestSwaps(t *testing.T) {
	s := scatter(11)
	steps := 0
	for range 100 {
		p := s.problem(1+s.below(6), 1+s.below(6))
		table := newTable(p)
		for range 12 {
			i, k := s.below(len(table.lines)), s.below(len(table.apart))
			if table.lines[i].num[k].Sign() == 0 {
				continue
			}
			lines := slices.Concat(table.lines, table.costs)
			want := swapped(lines, i, k)
			in, out := table.apart[k], table.basic[i]
			table.swap(i, k)
			steps++
			for j, l := range slices.Concat(table.lines, table.costs) {
				if texts(fractions(l)) != texts(want[j]) || !inLowest(l) {
					t.Fatalf("line %d: %+v, want %s", j, l, texts(want[j]))
				}
			}
			if table.basic[i] != in || table.apart[k] != out {
				t.Fatal("the columns have not changed places")
			}
		}
	}
	if steps < 300 {
		t.Errorf("%d steps", steps)
	}
}

// swapped is what lines are to be, when line i's column and that at place k have changed places.
func swapped(lines []line, i, k int) [][]ratio.R {
	var out [][]ratio.R
	by := fractions(lines[i])
	times, _ := ratio.Int(1).Quo(by[k])
	for j := range by {
		by[j] = by[j].Mul(times).Neg()
	}
	by[k] = times
	for j, l := range lines {
		if j == i {
			out = append(out, by)
			continue
		}
		list := fractions(l)
		old := list[k]
		list[k] = ratio.R{}
		for n := range list {
			list[n] = list[n].Add(old.Mul(by[n]))
		}
		out = append(out, list)
	}
	return out
}

func TestFactor(t *testing.T) {
	s := scatter(23)
	for range 2000 {
		over, more, by, times := whole.Of(int64(1+s.below(60))), whole.Of(int64(1+s.below(60))), whole.Of(int64(s.around(60))), whole.Of(int64(1+s.below(60)))
		shared := more.Gcd(times)
		more, times = part(more, shared), part(times, shared)
		want := over.Mul(more).Gcd(by.Mul(times))
		if got := factor(over, more, by, times); by.Sign() != 0 && got.Cmp(want) != 0 {
			t.Fatalf("%s %s %s %s: %s, want %s", over.Text(), more.Text(), by.Text(), times.Text(), got.Text(), want.Text())
		}
	}
}
