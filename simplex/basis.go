package simplex

import (
	"drydock/api"
	"drydock/exact"
)

// entry is an element of a column that is not 0.
type entry struct {
	row   int
	value api.Frac
}

// withEntry returns column with an element x in the given row, if x is not 0.
func withEntry(column []entry, row int, x api.Frac) []entry {
	if exact.IsZero(x) {
		return column
	}
	return append(column, entry{row, x})
}

// applied returns the sum of the elements of line times those of column.
func applied(line []api.Frac, column []entry) api.Frac {
	terms := make([]api.Frac, len(column))
	for k, e := range column {
		terms[k] = exact.Product(line[e.row], e.value)
	}
	return exact.Sum(terms...)
}

// basis is a set of linearly independent columns, one for each row, with the inverse of the matrix that they form.
//
// It consists of whole numbers: each of the lines is det times a row of the inverse, and the last one, behind them, det times the prices of the rows. det is the determinant, without its sign.
type basis struct {
	members []int
	lines   [][]api.Frac
	det     api.Frac
}

// newBasis returns the basis of the unit columns, which have the numbers from first on. All prices are 1.
func newBasis(first, rows int) basis {
	b := basis{det: exact.Integer(1)}
	var prices []api.Frac
	for i := range rows {
		line := zeros(rows)
		line[i] = exact.Integer(1)
		b.members = append(b.members, first+i)
		b.lines = append(b.lines, line)
		prices = append(prices, exact.Integer(1))
	}
	b.lines = append(b.lines, prices)
	return b
}

// priceLine returns the line of the prices.
func (b *basis) priceLine() []api.Frac {
	return b.lines[len(b.members)]
}

// setPrices sets the prices at which each member has the given cost, and a column behind them the cost 0.
func (b *basis) setPrices(cost []api.Frac) {
	prices := b.priceLine()
	for k := range prices {
		prices[k] = exact.Integer(0)
		for i, j := range b.members {
			if j < len(cost) {
				prices[k] = exact.Sum(prices[k], exact.Product(cost[j], b.lines[i][k]))
			}
		}
	}
}

// exchange replaces the member of row i by column j, of which the amounts of the members and the gain are given, as by inBasis. The amount for row i is not 0.
//
// This is the step of Bareiss: every division leaves no rest.
func (b *basis) exchange(i, j int, column []api.Frac) {
	top, pivot := b.lines[i], column[i]
	if exact.IsNegative(pivot) {
		pivot = opposite(pivot)
		for k, x := range top {
			top[k] = opposite(x)
		}
	}
	for l, line := range b.lines {
		if l == i {
			continue
		}
		for k, x := range line {
			line[k] = exact.Quotient(exact.Difference(exact.Product(pivot, x), exact.Product(column[l], top[k])), b.det)
		}
	}
	b.members[i], b.det = j, pivot
}

// opposite returns minus x. It shares memory with x.
func opposite(x api.Frac) api.Frac {
	x.Neg = !x.Neg && !exact.IsZero(x)
	return x
}
