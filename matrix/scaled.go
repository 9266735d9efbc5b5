package matrix

import (
	"optima/ratio"
	"optima/whole"
)

// scaled is the list times by, which is above 0: whole numbers that have nothing in common. Whole numbers are added and multiplied without cancelling.
func scaled(list []ratio.R) (out []whole.Z, by ratio.R) {
	above, shared := whole.Of(1), whole.Z{}
	for _, r := range list {
		above = exact(above, above.Gcd(r.Den())).Mul(r.Den())
	}
	for _, r := range list {
		z := r.Num().Mul(exact(above, r.Den()))
		out = append(out, z)
		shared = shared.Gcd(z)
	}
	if shared.Sign() == 0 { // noughts alone
		return out, ratio.Int(1)
	}
	for i, z := range out {
		out[i] = exact(z, shared)
	}
	by, _ = ratio.Of(above, shared)
	return out, by
}

// sum is the sum of each of a times that of b; b is as long.
func sum(a, b []whole.Z) whole.Z {
	total := whole.Z{}
	for i, z := range a {
		if z.Sign() != 0 && b[i].Sign() != 0 { // noughts are many
			total = total.Add(z.Mul(b[i]))
		}
	}
	return total
}

// crossed puts behind out, for each place, (row times more, less other times less) by d, which divides it.
func crossed(out, row, other []whole.Z, more, less, d whole.Z) []whole.Z {
	for i, z := range row {
		if less.Sign() != 0 && other[i].Sign() != 0 {
			z = z.Mul(more).Sub(other[i].Mul(less))
		} else {
			z = z.Mul(more)
		}
		out = append(out, exact(z, d))
	}
	return out
}

// exact is z by d, which divides it.
func exact(z, d whole.Z) whole.Z {
	q, _, _ := z.DivMod(d)
	return q
}

// parted is z by r, which is not 0.
func parted(z whole.Z, r ratio.R) ratio.R {
	out, _ := ratio.Of(z.Mul(r.Den()), r.Num())
	return out
}
