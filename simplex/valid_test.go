package simplex_test

import (
	"fmt"
	"math/big"
	"math/rand"
	"slices"
	"testing"

	"drydock/api"
	"drydock/simplex"
	"drydock/testfrac"
)

// checkValid checks whether p is valid, and that Solve refuses it if and only if it is not.
func checkValid(t *testing.T, name string, p api.Program, want bool) {
	t.Helper()
	if _, model := valued(p); model != want {
		t.Errorf("%s: the model says %v for %v", name, model, p)
	}
	if got := simplex.Valid(p); got != want {
		t.Errorf("%s: Valid of %v = %v", name, p, got)
	}
	s, err := simplex.Solve(p)
	if want && err != api.OK || !want && (err != api.ErrArg || !isEmpty(s)) {
		t.Errorf("%s: Solve of %v = %v, %d", name, p, s, err)
	}
}

// isEmpty reports whether s is the zero value.
func isEmpty(s api.Solution) bool {
	return s.Kind == 0 && len(s.X)+len(s.Y)+len(s.Ray) == 0 && !s.Value.Neg && len(s.Value.Num)+len(s.Value.Den) == 0
}

// P16.1: numbers of rows and columns.
func TestValidShapes(t *testing.T) {
	for _, rows := range []int{0, 1, 2, api.MaxRows - 1, api.MaxRows, api.MaxRows + 1} {
		for _, columns := range []int{0, 1, 2, api.MaxColumns - 1, api.MaxColumns, api.MaxColumns + 1} {
			want := 1 <= rows && rows <= api.MaxRows && 1 <= columns && columns <= api.MaxColumns
			checkValid(t, fmt.Sprint(rows, " rows and ", columns, " columns"), blank(rows, columns).fracs(), want)
		}
	}
	checkValid(t, "nothing", api.Program{}, false)
}

// P16.1: one list that is shorter or longer than it has to be.
func TestValidLengths(t *testing.T) {
	for _, rows := range []int{1, 2, 5, api.MaxRows} {
		for _, columns := range []int{1, 2, 7, api.MaxColumns} {
			for k := range rows + 2 {
				p := blank(rows, columns).fracs()
				lists := []*[]api.Frac{&p.Cost, &p.Right}
				for i := range p.Rows {
					lists = append(lists, &p.Rows[i])
				}
				given := *lists[k]
				for _, list := range [][]api.Frac{nil, given[1:], append(slices.Clone(given), given[0])} {
					*lists[k] = list
					checkValid(t, fmt.Sprint("list ", k, " of another length"), p, false)
				}
			}
		}
	}
	p := blank(2, 3).fracs()
	checkValid(t, "more rows", api.Program{Cost: p.Cost, Rows: append(p.Rows, p.Rows[0]), Right: p.Right}, false)
	checkValid(t, "fewer rows", api.Program{Cost: p.Cost, Rows: p.Rows[1:], Right: p.Right}, false)
	checkValid(t, "columns as rows", api.Program{Cost: p.Right, Rows: p.Rows, Right: p.Cost}, false)
}

// P16.1: a fraction in every place that is not valid, or is not in lowest terms.
func TestValidFractions(t *testing.T) {
	for _, size := range [][2]int{{1, 1}, {1, 3}, {3, 1}, {2, 4}} {
		for k := range size[0] + 2 {
			p := blank(size[0], size[1]).fracs()
			list := append([][]api.Frac{p.Cost, p.Right}, p.Rows...)[k]
			for i := range list {
				for _, list[i] = range testfrac.Invalid() {
					checkValid(t, "a fraction that is not valid", p, false)
				}
				for _, v := range numbers("0 1 -2/3 1000000007/998244353") {
					for _, list[i] = range testfrac.Forms(frac(v)) {
						checkValid(t, "a fraction of any form", p, true)
					}
				}
			}
		}
	}
}

// weighted returns a program with exactly the given weight, which is put into random places of some of its lists.
func weighted(t *testing.T, r *rand.Rand, p program, chosen []int, total int) program {
	t.Helper()
	q, weights := p.copied(), 0
	var last *big.Rat
	for weights < total {
		list := q.lists()[chosen[r.Intn(len(chosen))]]
		v := list[r.Intn(len(list))]
		if v.Sign() != 0 {
			continue
		}
		num, den := odd(r, 1+r.Intn(60)), odd(r, 1+r.Intn(60))
		if r.Intn(2) == 0 {
			den = big.NewInt(1)
		}
		v.SetFrac(num, den)
		if weights += weight([]*big.Rat{v}); weights > total {
			// All denominators are odd, so that a power of 2 has a weight of 1 more than its exponent.
			weights -= weight([]*big.Rat{v})
			v.Set(power(total - weights - 1))
			weights = total
		}
		last = v
	}
	if got := weight(slices.Concat(q.lists()...)); got != total {
		t.Fatalf("the program has the weight %d, not %d, and the last number is %v", got, total, last)
	}
	return q
}

// odd returns an odd number of up to the given number of binary digits, or 1.
func odd(r *rand.Rand, digits int) *big.Int {
	return big.NewInt(r.Int63n(1<<digits) | 1)
}

// P16.1: weights of MaxProgram and one more, in each list and in all of them.
func TestValidWeights(t *testing.T) {
	r := rand.New(rand.NewSource(1))
	base := blank(3, 40)
	for _, chosen := range [][]int{{0}, {2}, {3}, {4}, {0, 1}, {1, 2}, {0, 1, 2, 3, 4}} {
		for range 20 {
			for total := api.MaxProgram - 1; total <= api.MaxProgram+1; total++ {
				p := weighted(t, r, base, chosen, total)
				for _, q := range []api.Program{p.fracs(), p.disguised(r)} {
					checkValid(t, fmt.Sprint("the weight ", total), q, total <= api.MaxProgram)
				}
			}
		}
	}
	tall := blank(api.MaxRows, 1)
	for _, total := range []int{api.MaxProgram, api.MaxProgram + 1} {
		tall.right[0], tall.right[31] = power(total-7), ratio(-3, 8) // with 2 and 4 digits
		checkValid(t, "the weight of Right", tall.fracs(), total == api.MaxProgram)
	}
}

// P16.1: how the weight counts single numbers.
func TestValidWeightOfNumbers(t *testing.T) {
	for _, c := range []struct {
		v      *big.Rat
		weight int
	}{
		{ratio(0, 1), 0}, {ratio(1, 1), 1}, {ratio(-1, 1), 1}, {ratio(4, 1), 3}, {ratio(1, 2), 3}, {ratio(-3, 4), 5}, {ratio(7, 3), 5},
		{power(32), 33}, {power(31), 32}, {power(-32), 34}, {power(898), 899}, {power(899), 900}, {power(-897), 899}, {power(-898), 900},
		{new(big.Rat).Mul(power(-400), ratio(3, 1)), 403}, {power(4095), 4096}, {power(-4095), 4097},
	} {
		for _, form := range testfrac.Forms(frac(c.v)) {
			for _, rest := range []int{api.MaxProgram - c.weight, api.MaxProgram - c.weight + 1} {
				p := blank(1, 2)
				if rest > 0 {
					p.right[0] = power(rest - 1)
				}
				q := p.fracs()
				q.Rows[0][1] = form
				checkValid(t, fmt.Sprint("the weight of ", c.v, " and ", rest), q, c.weight <= api.MaxProgram && rest == api.MaxProgram-c.weight)
			}
		}
	}
}
