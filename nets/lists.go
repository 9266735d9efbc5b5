package nets

import "optima/whole"

// repeat is a list of one thing, so many times.
func repeat[T any](thing T, times int) []T {
	out := make([]T, times)
	for i := range out {
		out[i] = thing
	}
	return out
}

// each is the list of the one thing that is told of each of another list.
func each[T, U any](list []T, tell func(T) U) []U {
	out := make([]U, len(list))
	for i, thing := range list {
		out[i] = tell(thing)
	}
	return out
}

func total(list []whole.Z) whole.Z {
	var sum whole.Z
	for _, z := range list {
		sum = sum.Add(z)
	}
	return sum
}
