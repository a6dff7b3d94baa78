package linear

import (
	"drydock/api"
	"drydock/exact"
)

// transposed returns the matrix whose rows are the columns of a. It shares the elements with a.
func transposed(a [][]api.Frac) [][]api.Frac {
	out := make([][]api.Frac, len(a[0]))
	for _, row := range a {
		for j, x := range row {
			out[j] = append(out[j], x)
		}
	}
	return out
}

// products returns the product of each of the rows with v.
//
// No sum is large: all of them have a common denominator of at most 2 MaxWeight digits, and a numerator of only a few digits more.
func products(rows [][]api.Frac, v []api.Frac) []api.Frac {
	out := make([]api.Frac, len(rows))
	for i, row := range rows {
		terms := make([]api.Frac, len(v))
		for k, x := range v {
			terms[k] = exact.Product(row[k], x)
		}
		out[i] = exact.Sum(terms...)
	}
	return out
}
