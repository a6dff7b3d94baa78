package simplex

import (
	"slices"

	"drydock/api"
	"drydock/exact"
)

// search is a linear program in whole numbers with a basis that gives a point.
//
// Each row, with its Right, and the Cost are multiplied by a number that makes them whole, a row such that its Right is not negative. Behind the columns of the program stands a unit column for each row. The first search starts from these, and lowers the sum of what they have to serve; the second one lowers the Cost with the columns of the program alone.
//
// No number is large. A row of the weight w is multiplied by at most 2^w, and the absolute values of its elements have a sum of at most 2^w then. So the minors of the program in whole numbers, with Right and Cost, are at most 2^MaxProgram. The numbers of a basis are such minors, up to their signs, but for the prices of the first search, which are sums of at most MaxRows of them; and those of a solution are quotients of them, also those of Y, because the minor for a row does not contain that row and may be multiplied with its factor. Products of two of these numbers, and sums of such products, have fewer than 2,000 binary digits.
type search struct {
	basis
	columns [][]entry
	right   []entry
	cost    []api.Frac // of the columns of the program, in whole numbers
	scale   api.Frac   // the factor of Cost
	factors []api.Frac // of the rows
}

// newSearch returns the first search for p, which has fractions in lowest terms.
func newSearch(p api.Program) *search {
	s := &search{columns: make([][]entry, len(p.Cost)), cost: zeros(len(p.Cost)), scale: exact.Integer(1)}
	for i, row := range p.Rows {
		s.addRow(i, row, p.Right[i])
	}
	for i := range p.Rows {
		s.columns = append(s.columns, []entry{{i, exact.Integer(1)}})
	}
	s.basis = newBasis(len(p.Cost), len(p.Rows))
	return s
}

// addRow adds row i of the program to the columns, in whole numbers.
func (s *search) addRow(i int, row []api.Frac, right api.Frac) {
	list, factor := exact.Whole(append(slices.Clone(row), right))
	if exact.IsNegative(right) {
		factor = opposite(factor)
		for j, x := range list {
			list[j] = opposite(x)
		}
	}
	for j, x := range list[:len(row)] {
		s.columns[j] = withEntry(s.columns[j], i, x)
	}
	s.right = withEntry(s.right, i, list[len(row)])
	s.factors = append(s.factors, factor)
}

// setCost begins the second search, with the given Cost.
func (s *search) setCost(cost []api.Frac) {
	s.cost, s.scale = exact.Whole(cost)
	s.setPrices(s.cost)
}

// improve exchanges columns of the basis until no other column has a gain, and returns -1, or until it finds one with a gain without end, and returns that.
//
// It comes to an end, because where columns tie, it chooses as if the columns of its first basis, times ever smaller numbers, were added to Right: each exchange would lower the cost then, so that no basis occurs twice. It considers a column again only after all the others, because such a rule needs many exchanges for fewer programs than others do.
func (s *search) improve() int {
	first := slices.Clone(s.members)
	j := s.entering(0)
	for j >= 0 {
		column := s.inBasis(j)
		i := s.leaving(column, first)
		if i < 0 {
			return j
		}
		s.exchange(i, j, column)
		j = s.entering(j + 1)
	}
	return j
}

// entering returns a column of the program that has a gain, the first one from a given one on and then from the beginning, or -1 if there is none.
func (s *search) entering(from int) int {
	for k := range s.cost {
		j := (from + k) % len(s.cost)
		if exact.IsPositive(s.gain(j)) {
			return j
		}
	}
	return -1
}

// gain returns det times the amount by which the cost falls for each unit of column j.
func (s *search) gain(j int) api.Frac {
	return exact.Difference(applied(s.priceLine(), s.columns[j]), exact.Product(s.det, s.cost[j]))
}

// inBasis returns det times the amounts of the members of the basis that column j replaces, and behind them its gain.
func (s *search) inBasis(j int) []api.Frac {
	out := make([]api.Frac, len(s.members))
	for i := range out {
		out[i] = applied(s.lines[i], s.columns[j])
	}
	return append(out, s.gain(j))
}

// leaving returns the row whose member is used up first if a column enters, which is given by inBasis, or -1 if none ever is. first is the first basis.
func (s *search) leaving(column []api.Frac, first []int) int {
	var rows []int
	for i := range s.members {
		if exact.IsPositive(column[i]) {
			rows = append(rows, i)
		}
	}
	if len(rows) == 0 {
		return -1
	}
	rows = s.usedUp(rows, column, s.right)
	for _, j := range first {
		if len(rows) > 1 {
			rows = s.usedUp(rows, column, s.columns[j])
		}
	}
	return rows[0]
}

// usedUp returns those of the rows whose members would be used up first if right were the Right of the program.
func (s *search) usedUp(rows []int, column []api.Frac, right []entry) []int {
	var out []int
	var least api.Frac
	for _, i := range rows {
		amount := exact.Quotient(applied(s.lines[i], right), column[i])
		if out == nil || exact.Order(amount, least) < 0 {
			out, least = nil, amount
		}
		if exact.Order(amount, least) == 0 {
			out = append(out, i)
		}
	}
	return out
}

// isServed reports whether the columns of the program serve all of Right, after the first search.
func (s *search) isServed() bool {
	return exact.IsZero(applied(s.priceLine(), s.right))
}

// releaseUnits exchanges the unit columns of the basis, which serve nothing, for columns of the program. Where none can take the place, the row is a sum of multiples of others, and the unit column will never serve anything.
func (s *search) releaseUnits() {
	for i, member := range s.members {
		if member < len(s.cost) {
			continue
		}
		replaces := func(column []entry) bool { return !exact.IsZero(applied(s.lines[i], column)) }
		if j := slices.IndexFunc(s.columns[:len(s.cost)], replaces); j >= 0 {
			s.exchange(i, j, s.inBasis(j))
		}
	}
}

// point returns the amounts of the columns of the program.
func (s *search) point() []api.Frac {
	out := zeros(len(s.cost))
	for i, j := range s.members {
		if j < len(out) {
			out[j] = exact.Quotient(applied(s.lines[i], s.right), s.det)
		}
	}
	return out
}

// prices returns the prices of the rows as they were given.
func (s *search) prices() []api.Frac {
	out, scale := make([]api.Frac, len(s.members)), exact.Product(s.det, s.scale)
	for i, price := range s.priceLine() {
		out[i] = exact.Quotient(exact.Product(price, s.factors[i]), scale)
	}
	return out
}

// ray returns how much the amounts of the columns of the program change for each unit of column j.
func (s *search) ray(j int) []api.Frac {
	out := zeros(len(s.cost))
	for i, x := range s.inBasis(j)[:len(s.members)] {
		if member := s.members[i]; member < len(out) {
			out[member] = opposite(exact.Quotient(x, s.det))
		}
	}
	out[j] = exact.Integer(1)
	return out
}
