package linear

import (
	"math/bits"

	"drydock/api"
	"drydock/fraction"
)

const limbBits = 32 // binary digits of a limb

// reduced returns copies of rows of valid fractions, with elements in lowest terms.
func reduced(rows ...[]api.Frac) [][]api.Frac {
	out := make([][]api.Frac, len(rows))
	for i, row := range rows {
		out[i] = make([]api.Frac, len(row))
		for j, x := range row {
			out[i][j], _ = fraction.Reduce(x)
		}
	}
	return out
}

// weight returns how many binary digits the elements of rows have that are not 0, without denominators of 1. The elements are in lowest terms.
func weight(rows ...[]api.Frac) int {
	total := 0
	for _, row := range rows {
		for _, x := range row {
			total += size(x.Num)
			// The denominator of 0 is 1 too.
			if !isOne(x.Den) {
				total += size(x.Den)
			}
		}
	}
	return total
}

// size returns the number of binary digits of a, which is canonical.
func size(a api.Nat) int {
	last := len(a) - 1
	if last < 0 {
		return 0
	}
	return limbBits*last + bits.Len32(a[last])
}

// isOne reports whether a, which is canonical, is 1.
func isOne(a api.Nat) bool {
	return size(a) == 1
}

// transposed returns the matrix whose rows are the columns of a. It shares the elements with a.
func transposed(a [][]api.Frac) [][]api.Frac {
	out := make([][]api.Frac, len(a[0]))
	for _, row := range a {
		for j, x := range row {
			out[j] = append(out[j], x)
		}
	}
	return out
}

// products returns the product of each of the rows with v.
func products(rows [][]api.Frac, v []api.Frac) []api.Frac {
	out := make([]api.Frac, len(rows))
	for i, row := range rows {
		terms := make([]api.Frac, len(v))
		for k, x := range v {
			terms[k] = product(row[k], x)
		}
		out[i] = sum(terms...)
	}
	return out
}

// The following functions have no error to pass on, because no number is large. In products of matrices, all sums have a common denominator of at most 2 MaxWeight digits, and a numerator of only a few digits more. For eliminations, see there.

// integer returns the number v.
func integer(v int64) api.Frac {
	out, _ := fraction.Make(v, 1)
	return out
}

// sum returns the sum of the terms.
func sum(terms ...api.Frac) api.Frac {
	out, _ := fraction.Sum(terms...)
	return out
}

// difference returns x minus y.
func difference(x, y api.Frac) api.Frac {
	out, _ := fraction.Sub(x, y)
	return out
}

// product returns x times y.
func product(x, y api.Frac) api.Frac {
	out, _ := fraction.Mul(x, y)
	return out
}

// quotient returns x divided by y, which is not 0.
func quotient(x, y api.Frac) api.Frac {
	out, _ := fraction.Quo(x, y)
	return out
}
