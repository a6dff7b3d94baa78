package simplex_test

import (
	"encoding/binary"
	"math/big"
	"slices"

	"drydock/api"
)

// This model says in the words of the chapter which programs are valid and which solutions are accepted, and it solves small programs by looking at all their basic points.

// whole returns the value of a.
func whole(a api.Nat) *big.Int {
	var bytes []byte
	for _, limb := range slices.Backward(a) {
		bytes = binary.BigEndian.AppendUint32(bytes, limb)
	}
	return new(big.Int).SetBytes(bytes)
}

// isLong reports whether v has more than the given number of limbs.
func isLong(v *big.Int, limbs int) bool {
	return v.BitLen() > 32*limbs
}

// value returns the value of x, and whether x is a valid fraction.
func value(x api.Frac) (*big.Rat, bool) {
	num, den := whole(x.Num), whole(x.Den)
	if den.Sign() == 0 || isLong(num, 128) || isLong(den, 128) {
		return nil, false
	}
	if x.Neg {
		num.Neg(num)
	}
	return new(big.Rat).SetFrac(num, den), true
}

// values returns the values of the fractions, and whether all are valid.
func values(list []api.Frac) ([]*big.Rat, bool) {
	out := make([]*big.Rat, len(list))
	for i, x := range list {
		v, ok := value(x)
		if !ok {
			return nil, false
		}
		out[i] = v
	}
	return out, true
}

// weight returns the weight of a list (chapter 5).
func weight(list []*big.Rat) int {
	total := 0
	for _, v := range list {
		total += v.Num().BitLen()
		if !v.IsInt() {
			total += v.Denom().BitLen()
		}
	}
	return total
}

// valued returns the program in other numbers, and whether it is valid.
func valued(p api.Program) (program, bool) {
	m, n := len(p.Rows), len(p.Cost)
	if m < 1 || m > 32 || n < 1 || n > 256 || len(p.Right) != m {
		return program{}, false
	}
	cost, okCost := values(p.Cost)
	right, okRight := values(p.Right)
	total, ok := weight(cost)+weight(right), okCost && okRight
	q := program{cost: cost, right: right}
	for _, list := range p.Rows {
		row, okRow := values(list)
		ok = ok && okRow && len(list) == n
		total += weight(row)
		q.rows = append(q.rows, row)
	}
	return q, ok && total <= 900
}

// inner returns the sum of the products of the elements of a and b.
func inner(a, b []*big.Rat) *big.Rat {
	out := new(big.Rat)
	for i, v := range a {
		out.Add(out, new(big.Rat).Mul(v, b[i]))
	}
	return out
}

// column returns column j of p.
func (p program) column(j int) []*big.Rat {
	var out []*big.Rat
	for _, row := range p.rows {
		out = append(out, row[j])
	}
	return out
}

// satisfies reports whether no element of x is negative, and the sum for each row is the element of right.
func (p program) satisfies(x, right []*big.Rat) bool {
	if len(x) != len(p.cost) {
		return false
	}
	for _, v := range x {
		if v.Sign() < 0 {
			return false
		}
	}
	for i, row := range p.rows {
		if inner(row, x).Cmp(right[i]) != 0 {
			return false
		}
	}
	return true
}

// isPriced reports whether y has one element for each row, and the sum for each column is at most the element of cost.
func (p program) isPriced(y, cost []*big.Rat) bool {
	if len(y) != len(p.rows) {
		return false
	}
	for j := range p.cost {
		if inner(y, p.column(j)).Cmp(cost[j]) > 0 {
			return false
		}
	}
	return true
}

// isShort reports whether the numbers and their common denominator have at most 32 limbs.
func isShort(list []*big.Rat) bool {
	common := big.NewInt(1)
	for _, v := range list {
		if isLong(v.Num(), 32) || isLong(v.Denom(), 32) {
			return false
		}
		shared := new(big.Int).GCD(nil, nil, common, v.Denom())
		common.Mul(common, new(big.Int).Quo(v.Denom(), shared))
	}
	return !isLong(common, 32)
}

// accepted reports whether s is a solution of p (P16.2).
func accepted(p api.Program, s api.Solution) bool {
	q, ok := valued(p)
	x, okX := values(s.X)
	y, okY := values(s.Y)
	ray, okRay := values(s.Ray)
	v, okValue := value(s.Value)
	if !ok || !okX || !okY || !okRay || !okValue || !isShort(x) || !isShort(y) || !isShort(ray) || !isShort([]*big.Rat{v}) {
		return false
	}
	none := repeated(256, 0)
	switch s.Kind {
	case 1:
		return len(ray) == 0 && q.satisfies(x, q.right) && q.isPriced(y, q.cost) && v.Cmp(inner(q.cost, x)) == 0 && v.Cmp(inner(y, q.right)) == 0
	case 2:
		return len(x) == 0 && len(ray) == 0 && q.isPriced(y, none) && inner(y, q.right).Sign() > 0 && v.Sign() == 0
	case 3:
		return len(y) == 0 && q.satisfies(x, q.right) && q.satisfies(ray, none) && inner(q.cost, ray).Sign() < 0 && v.Sign() == 0
	}
	return false
}

// least returns the Kind of the solutions of a small program and, for LPOptimal, the least cost.
func (p program) least() (int, *big.Rat) {
	points := basicPoints(p.rows, p.right)
	if len(points) == 0 {
		return api.LPInfeasible, nil
	}
	// A ray along which the cost falls is a point of the program with Right 0 and one more row, for the cost.
	if len(basicPoints(append([][]*big.Rat{p.cost}, p.rows...), append(repeated(1, -1), repeated(len(p.rows), 0)...))) > 0 {
		return api.LPUnbounded, nil
	}
	var out *big.Rat
	for _, x := range points {
		if cost := inner(p.cost, x); out == nil || cost.Cmp(out) < 0 {
			out = cost
		}
	}
	return api.LPOptimal, out
}

// basicPoints returns the points whose columns with numbers other than 0 are among some that are linearly independent.
func basicPoints(rows [][]*big.Rat, right []*big.Rat) [][]*big.Rat {
	var out [][]*big.Rat
	n := len(rows[0])
	for set := range 1 << n {
		var columns []int
		for j := range n {
			if set>>j&1 == 1 {
				columns = append(columns, j)
			}
		}
		if x := pointOf(rows, right, columns); len(columns) <= len(rows) && x != nil {
			out = append(out, x)
		}
	}
	return out
}

// pointOf returns the point that has only the given columns, or nil if there is none, or more than one.
func pointOf(rows [][]*big.Rat, right []*big.Rat, columns []int) []*big.Rat {
	a := make([][]*big.Rat, len(rows))
	for i, row := range rows {
		for _, j := range columns {
			a[i] = append(a[i], new(big.Rat).Set(row[j]))
		}
		a[i] = append(a[i], new(big.Rat).Set(right[i]))
	}
	for k := range columns {
		if !cleared(a, k) {
			return nil
		}
	}
	x := repeated(len(rows[0]), 0)
	for i, row := range a {
		v := row[len(columns)]
		if i >= len(columns) && v.Sign() != 0 || v.Sign() < 0 {
			return nil
		}
		if i < len(columns) {
			x[columns[i]] = v
		}
	}
	return x
}

// cleared makes column k one of zeros with 1 in row k, or returns false if the rows from k on are 0 there.
func cleared(a [][]*big.Rat, k int) bool {
	i := k
	for i < len(a) && a[i][k].Sign() == 0 {
		i++
	}
	if i == len(a) {
		return false
	}
	a[i], a[k] = a[k], a[i]
	scale := new(big.Rat).Inv(a[k][k])
	for _, v := range a[k] {
		v.Mul(v, scale)
	}
	for i, row := range a {
		factor := new(big.Rat).Set(row[k])
		for j := range row {
			if i != k {
				row[j].Sub(row[j], new(big.Rat).Mul(factor, a[k][j]))
			}
		}
	}
	return true
}
