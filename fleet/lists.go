package fleet

import "slices"

// all reports whether a condition holds for every element of a list.
func all[T any](list []T, holds func(x T) bool) bool {
	for _, x := range list {
		if !holds(x) {
			return false
		}
	}
	return true
}

// areDistinct reports whether no element of a list occurs twice.
func areDistinct[T comparable](list []T) bool {
	seen := map[T]bool{}
	for _, x := range list {
		if seen[x] {
			return false
		}
		seen[x] = true
	}
	return true
}

// isIndex reports whether a list has an element with the index i.
func isIndex[T any](i int, list []T) bool {
	return i >= 0 && i < len(list)
}

// convert returns what a function makes of each element of a list.
func convert[T, U any](list []T, to func(x T) U) []U {
	out := slices.Grow([]U(nil), len(list))
	for _, x := range list {
		out = append(out, to(x))
	}
	return out
}
