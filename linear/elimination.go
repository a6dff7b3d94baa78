package linear

import (
	"slices"

	"drydock/api"
	"drydock/exact"
)

// elimination is the state of an elimination in whole numbers (by Bareiss): each row of a matrix is multiplied by a number that makes it whole, and every division leaves no rest.
//
// The elements, except those that are not looked at any more, are minors of the whole rows, up to their signs. A row of the weight w becomes whole by a factor of at most 2^w, and its elements are at most 2^w then. So a minor has at most MaxWeight + 80 binary digits, and the difference of two products of minors, before it is divided, fewer than 4,000.
type elimination struct {
	rows  [][]api.Frac
	rank  int      // how many rows, from the first on, have a pivot
	pivot api.Frac // the pivot of the last of them, 1 if there is none
	scale api.Frac // the product of the rows' factors, negative after an odd number of exchanges
}

// eliminate makes each of the first columns, as far as the rank allows, a column of zeros with the pivot in a row of its own. The elements of a are in lowest terms.
//
// The pivots of earlier rows are not written: all of them would be equal to the last one.
func eliminate(a [][]api.Frac, columns int) elimination {
	e := elimination{pivot: exact.Integer(1), scale: exact.Integer(1)}
	for _, row := range a {
		row, factor := exact.Whole(row)
		e.rows = append(e.rows, row)
		e.scale = exact.Product(e.scale, factor)
	}
	for j := range columns {
		if e.findPivot(j) {
			e.clearColumn(j)
		}
	}
	return e
}

// findPivot brings a row whose element in column j is not 0 behind the rows that have a pivot, and reports whether there is one.
func (e *elimination) findPivot(j int) bool {
	for i := e.rank; i < len(e.rows); i++ {
		if exact.IsZero(e.rows[i][j]) {
			continue
		}
		if i != e.rank {
			e.rows[i], e.rows[e.rank] = e.rows[e.rank], e.rows[i]
			e.scale.Neg = !e.scale.Neg
		}
		return true
	}
	return false
}

// clearColumn makes the next row's element in column j a pivot, and those of all other rows 0.
func (e *elimination) clearColumn(j int) {
	last, top := e.pivot, e.rows[e.rank][j:]
	for i, row := range e.rows {
		if i != e.rank {
			subtract(row[j:], top, last)
		}
	}
	e.pivot = top[0]
	e.rank++
}

// subtract makes the first element of row 0 by taking out a multiple of top, and divides by the last pivot.
func subtract(row, top []api.Frac, last api.Frac) {
	first := row[0]
	for k, x := range row {
		row[k] = exact.Quotient(exact.Difference(exact.Product(top[0], x), exact.Product(first, top[k])), last)
	}
}

// solution returns the matrix whose product with a is right, or ErrSingular. a is square.
func solution(a, right [][]api.Frac) ([][]api.Frac, api.Errno) {
	n := len(a)
	both := make([][]api.Frac, n)
	for i := range both {
		both[i] = slices.Concat(a[i], right[i])
	}
	e := eliminate(both, n)
	if e.rank < n {
		return nil, api.ErrSingular
	}
	out := make([][]api.Frac, n)
	for i, row := range e.rows {
		for _, x := range row[n:] {
			out[i] = append(out[i], exact.Quotient(x, e.pivot))
		}
	}
	return out, api.OK
}
