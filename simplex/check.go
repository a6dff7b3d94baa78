package simplex

import (
	"slices"

	"drydock/api"
	"drydock/exact"
)

const maxLimbs = 32 // limbs of a numerator or denominator of a solution, and of a common denominator of a list

// isShaped reports whether the lists of s are as long as its Kind demands.
func isShaped(p api.Program, s api.Solution) bool {
	x, y, ray := 0, 0, 0
	switch s.Kind {
	case api.LPOptimal:
		x, y = len(p.Cost), len(p.Rows)
	case api.LPInfeasible:
		y = len(p.Rows)
	case api.LPUnbounded:
		x, ray = len(p.Cost), len(p.Cost)
	default:
		return false
	}
	return len(s.X) == x && len(s.Y) == y && len(s.Ray) == ray
}

// examined returns the lists with their numbers in lowest terms, and whether all of them are valid, and neither they nor the least common multiple of the denominators of a list are too long.
func examined(lists ...[]api.Frac) ([][]api.Frac, bool) {
	if !areValid(lists...) {
		return nil, false
	}
	lists = exact.Reduced(lists...)
	for _, list := range lists {
		common := exact.Integer(1)
		for _, x := range list {
			if len(x.Num) > maxLimbs || len(x.Den) > maxLimbs {
				return nil, false
			}
			common = exact.Multiple(common, x)
			if len(common.Num) > maxLimbs {
				return nil, false
			}
		}
	}
	return lists, true
}

// The numbers below are never large. Over the product of their common denominators, the elements of a row (or column) and of a list of a solution are whole, with at most 2,048 + MaxProgram binary digits in a product of two, and at most MaxColumns of these are added.

// isPoint reports whether x satisfies the equations of rows and right, and none of its numbers is negative. Right may be longer than rows.
func isPoint(rows [][]api.Frac, x, right []api.Frac) bool {
	for i, row := range rows {
		if exact.Order(inner(row, x), right[i]) != 0 {
			return false
		}
	}
	return !slices.ContainsFunc(x, exact.IsNegative)
}

// isBelow reports whether the sum of y times a column is at most its element of cost, for each of the columns. Cost may be longer than rows.
func isBelow(rows [][]api.Frac, y, cost []api.Frac) bool {
	column := make([]api.Frac, len(rows))
	for j := range rows[0] {
		for i, row := range rows {
			column[i] = row[j]
		}
		if exact.Order(inner(y, column), cost[j]) > 0 {
			return false
		}
	}
	return true
}

// inner returns the sum of the products of the elements of a and b.
func inner(a, b []api.Frac) api.Frac {
	terms := make([]api.Frac, len(a))
	for i, x := range a {
		terms[i] = exact.Product(x, b[i])
	}
	return exact.Sum(terms...)
}
