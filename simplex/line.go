package simplex

import (
	"optima/ratio"
	"optima/whole"
)

// line is a list of fractions as whole numbers and the denominator that they have in common, above 0; all of these together are divided by nothing but 1.
//
// Sums of whole numbers are not cancelled one by one: once for a line is enough.
type line struct {
	num  []whole.Z
	over whole.Z
}

// lineOf is a list as a line.
func lineOf(list []ratio.R) line {
	l := line{over: whole.Of(1)}
	for _, r := range list {
		l.over = part(l.over, l.over.Gcd(r.Den())).Mul(r.Den())
	}
	for _, r := range list {
		l.num = append(l.num, r.Num().Mul(part(l.over, r.Den())))
	}
	return l
}

// at is the number at k.
func (l line) at(k int) ratio.R {
	r, _ := ratio.Of(l.num[k], l.over)
	return r
}

// stretch is how far what the line tells can move, when each that it is told by moves by 1, and 1 for itself. By that lines of great and of small numbers are measured alike.
func (l line) stretch() ratio.R {
	total := l.over
	for _, z := range l.num {
		total = total.Add(size(z))
	}
	r, _ := ratio.Of(total, l.over)
	return r
}

// solve turns a line that tells one by others: now the one at k, whose number is not 0, is told, and the one that was stands at k.
func (l *line) solve(k int) {
	if l.num[k].Sign() > 0 { // so that the denominator stays above 0
		for j, z := range l.num {
			l.num[j] = z.Neg()
		}
		l.num[k], l.over = l.over, l.num[k].Neg()
		return
	}
	l.num[k], l.over = l.over.Neg(), l.num[k].Neg()
}

// put takes, for the one at k, what the line by tells of it; then at k stands the one that does so in by.
func (l *line) put(k int, by line) {
	times := l.num[k]
	if times.Sign() == 0 {
		return
	}
	shared := times.Gcd(by.over)
	times, more := part(times, shared), part(by.over, shared)
	l.num[k] = whole.Z{}
	for j, z := range l.num {
		l.num[j] = joined(z, more, by.num[j], times)
	}
	below := factor(l.over, more, by.num[k], times)
	l.over = l.over.Mul(more)
	l.cancel(below)
}

// joined is a times b and c times d.
func joined(a, b, c, d whole.Z) whole.Z {
	if c.Sign() == 0 { // noughts are many, and so are ones
		return product(a, b)
	}
	if a.Sign() == 0 {
		return product(c, d)
	}
	return product(a, b).Add(product(c, d))
}

func product(a, b whole.Z) whole.Z {
	if isOne(b) {
		return a
	}
	return a.Mul(b)
}

// factor is the greatest number that divides over times more, and by times times: times and more have nothing in common, so that smaller numbers tell it.
func factor(over, more, by, times whole.Z) whole.Z {
	shared := over.Gcd(by)
	left := part(over, shared).Gcd(times)
	right := part(by, shared).Gcd(more)
	return shared.Mul(left).Mul(right)
}

// cancel divides a line by what divides all of it: nothing does that does not divide below.
func (l *line) cancel(below whole.Z) {
	if isOne(below) {
		return
	}
	parts := make([]whole.Z, len(l.num))
	for !isOne(below) {
		rest := divided(parts, l.num, below)
		if rest.Sign() == 0 {
			l.num, l.over = parts, part(l.over, below)
			return
		}
		below = below.Gcd(rest)
	}
}

// divided puts each number by d into parts; where d does not divide one, it ends with the rest.
func divided(parts, num []whole.Z, d whole.Z) whole.Z {
	for j, z := range num {
		if z.Sign() == 0 {
			continue
		}
		q, rest, _ := z.DivMod(d)
		if rest.Sign() != 0 {
			return rest
		}
		parts[j] = q
	}
	return whole.Z{}
}

// part is z by d, which divides it.
func part(z, d whole.Z) whole.Z {
	if isOne(d) || z.Sign() == 0 {
		return z
	}
	q, _, _ := z.DivMod(d)
	return q
}

func isOne(z whole.Z) bool { return z.Cmp(whole.Of(1)) == 0 }
