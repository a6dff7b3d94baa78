// Package exact computes with fractions where no result can be large (chapter 2), so that there is no error to pass on. Who calls it has to know why that is so.
//
// Fractions that are passed in are valid, and in lowest terms where only a part of them is looked at: in IsZero, IsPositive, IsNegative, Weight, Multiple and Whole. Fractions that are returned are in lowest terms, and are new memory. (If a result is large all the same, it is the zero value of api.Frac, which is not valid, and so is all that is computed from it.)
package exact

import (
	"drydock/api"
	"drydock/fraction"
	"drydock/natural"
)

// Integer returns the number v.
func Integer(v int64) api.Frac {
	out, _ := fraction.Make(v, 1)
	return out
}

// Sum returns the sum of the terms.
func Sum(terms ...api.Frac) api.Frac {
	out, _ := fraction.Sum(terms...)
	return out
}

// Difference returns x minus y.
func Difference(x, y api.Frac) api.Frac {
	out, _ := fraction.Sub(x, y)
	return out
}

// Product returns x times y.
func Product(x, y api.Frac) api.Frac {
	out, _ := fraction.Mul(x, y)
	return out
}

// Quotient returns x divided by y, which is not 0.
func Quotient(x, y api.Frac) api.Frac {
	out, _ := fraction.Quo(x, y)
	return out
}

// Order returns -1, 0 or 1 if x is less than, equal to or greater than y.
func Order(x, y api.Frac) int {
	out, _ := fraction.Cmp(x, y)
	return out
}

// IsZero reports whether x is 0.
func IsZero(x api.Frac) bool {
	return len(x.Num) == 0
}

// IsPositive reports whether x is greater than 0.
func IsPositive(x api.Frac) bool {
	return !IsZero(x) && !x.Neg
}

// IsNegative reports whether x is less than 0.
func IsNegative(x api.Frac) bool {
	return x.Neg
}

// Reduced returns copies of rows with elements in lowest terms.
func Reduced(rows ...[]api.Frac) [][]api.Frac {
	out := make([][]api.Frac, len(rows))
	for i, row := range rows {
		out[i] = make([]api.Frac, len(row))
		for j, x := range row {
			out[i][j], _ = fraction.Reduce(x)
		}
	}
	return out
}

// Weight returns the weight of rows (chapter 5): how many binary digits the elements have that are not 0, without denominators of 1.
func Weight(rows ...[]api.Frac) int {
	total := 0
	for _, row := range rows {
		for _, x := range row {
			total += natural.Bits(x.Num)
			// The denominator of 0 is 1 too.
			if den := natural.Bits(x.Den); den > 1 {
				total += den
			}
		}
	}
	return total
}

// Multiple returns the least common multiple of a, which is a whole number greater than 0, and the denominator of x.
func Multiple(a, x api.Frac) api.Frac {
	// The denominator of this product is the part of the denominator of x that a does not have yet.
	missing := Product(a, x).Den
	return Product(a, api.Frac{Num: missing, Den: a.Den})
}

// Whole returns a multiple of row that consists of whole numbers, and the factor. The factor is the least common multiple of the denominators.
func Whole(row []api.Frac) ([]api.Frac, api.Frac) {
	factor := Integer(1)
	for _, x := range row {
		factor = Multiple(factor, x)
	}
	out := make([]api.Frac, len(row))
	for k, x := range row {
		out[k] = Product(factor, x)
	}
	return out, factor
}
