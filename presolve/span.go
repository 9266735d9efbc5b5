package presolve

import (
	"optima/linear"
	"optima/ratio"
	"optima/whole"
)

// span is from where to where a number may go.
type span struct{ low, high linear.Bound }

func only(number ratio.R) span {
	at := linear.Bound{Has: true, At: number}
	return span{at, at}
}

// plus is where the sum of two numbers may go.
func (s span) plus(o span) span { return span{sum(s.low, o.low), sum(s.high, o.high)} }

// times is where a number may go that is so many times another one.
func (s span) times(by ratio.R) span {
	if by.Sign() < 0 {
		s.low, s.high = s.high, s.low
	}
	return span{product(s.low, by), product(s.high, by)}
}

// inward is the same for a number that has to be whole: the first and the last one that it may be.
func (s span) inward() span {
	return span{rounded(s.low, ratio.R.Ceil), rounded(s.high, ratio.R.Floor)}
}

// within is whether all that one span has the other one has too.
func (s span) within(o span) bool {
	return (!o.low.Has || s.low.Has && s.low.At.Cmp(o.low.At) >= 0) &&
		(!o.high.Has || s.high.Has && s.high.At.Cmp(o.high.At) <= 0)
}

func (s span) crosses() bool { return above(s.low, s.high) }

// still is whether it leaves one number and no other.
func (s span) still() bool { return same(s.low, s.high) }

func above(a, b linear.Bound) bool { return a.Has && b.Has && a.At.Cmp(b.At) > 0 }

func same(a, b linear.Bound) bool { return a.Has && b.Has && a.At.Cmp(b.At) == 0 }

func sum(a, b linear.Bound) linear.Bound {
	if !a.Has || !b.Has {
		return linear.Bound{}
	}
	return linear.Bound{Has: true, At: a.At.Add(b.At)}
}

func product(b linear.Bound, by ratio.R) linear.Bound {
	if !b.Has {
		return linear.Bound{}
	}
	return linear.Bound{Has: true, At: b.At.Mul(by)}
}

func rounded(b linear.Bound, round func(ratio.R) whole.Z) linear.Bound {
	if b.Has {
		b.At, _ = ratio.Of(round(b.At), whole.Of(1))
	}
	return b
}
