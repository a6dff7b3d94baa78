package linear_test

import (
	"math/big"
	"math/rand"
	"testing"

	"drydock/api"
	"drydock/linear"
	"drydock/testfrac"
)

// weigher is a function with a limit of the weight of its arguments, which are made from a square matrix so that they have its weight.
type weigher struct {
	name  string
	limit int
	call  func(a [][]api.Frac) (empty bool, err api.Errno)
}

// weighers returns all functions with a limit. Those with two arguments get the matrix as one of them, or rows of it as each of them, and zeros elsewhere.
func weighers() []weigher {
	return []weigher{
		{"Mul", 2 * api.MaxWeight, func(a [][]api.Frac) (bool, api.Errno) {
			got, err := linear.Mul(a, zeros(len(a)))
			return len(got) == 0, err
		}},
		{"Mul from the left", 2 * api.MaxWeight, func(a [][]api.Frac) (bool, api.Errno) {
			got, err := linear.Mul(zeros(len(a)), a)
			return len(got) == 0, err
		}},
		{"Mul of both", 2 * api.MaxWeight, func(a [][]api.Frac) (bool, api.Errno) {
			upper, lower := halves(a)
			got, err := linear.Mul(upper, lower)
			return len(got) == 0, err
		}},
		{"Apply", 2 * api.MaxWeight, func(a [][]api.Frac) (bool, api.Errno) {
			got, err := linear.Apply(a, zeros(len(a))[0])
			return len(got) == 0, err
		}},
		{"Apply to the first row", 2 * api.MaxWeight, func(a [][]api.Frac) (bool, api.Errno) {
			b, v := rowApart(a)
			got, err := linear.Apply(b, v)
			return len(got) == 0, err
		}},
		{"Invert", api.MaxWeight, func(a [][]api.Frac) (bool, api.Errno) {
			got, err := linear.Invert(a)
			return len(got) == 0, err
		}},
		{"Det", api.MaxWeight, func(a [][]api.Frac) (bool, api.Errno) {
			got, err := linear.Det(a)
			return len(got.Den) == 0, err
		}},
		{"Rank", api.MaxWeight, func(a [][]api.Frac) (bool, api.Errno) {
			got, err := linear.Rank(a)
			return got == 0, err
		}},
		{"Solve", api.MaxWeight, func(a [][]api.Frac) (bool, api.Errno) {
			got, err := linear.Solve(a, zeros(len(a))[0])
			return len(got) == 0, err
		}},
		{"Solve for the first row", api.MaxWeight, func(a [][]api.Frac) (bool, api.Errno) {
			b, v := rowApart(a)
			got, err := linear.Solve(b, v)
			return len(got) == 0, err
		}},
	}
}

// zeros returns a square matrix of zeros that look long.
func zeros(n int) [][]api.Frac {
	out := constant(n, n, 0).fracs()
	for _, row := range out {
		for j, x := range row {
			list := testfrac.Forms(x)
			row[j] = list[len(list)-3+j%3]
		}
	}
	return out
}

// halves returns two square matrices that have every other row of a, and zeros elsewhere.
func halves(a [][]api.Frac) (upper, lower [][]api.Frac) {
	upper, lower = zeros(len(a)), zeros(len(a))
	for i, row := range a {
		if i%2 == 0 {
			upper[i] = row
		} else {
			lower[i] = row
		}
	}
	return upper, lower
}

// rowApart returns a with a first row of zeros, and its first row.
func rowApart(a [][]api.Frac) ([][]api.Frac, []api.Frac) {
	out := zeros(len(a))
	copy(out[1:], a[1:])
	return out, a[0]
}

// weighed returns square matrices with exactly the given weight.
func weighed(t *testing.T, r *rand.Rand, weight int) []model {
	t.Helper()
	negative := new(big.Rat).Neg(power(1 - weight/2))
	out := []model{
		{{power(weight - 1)}},
		{{power(-weight + 2)}}, // 1 digit and weight - 1 digits
		{{new(big.Rat).SetFrac(dense(r, weight/2), power(weight-weight/2-1).Num())}},
		{{power(0), power(weight - 4)}, {power(0), power(0)}},
		{{negative, power(0)}, {ratio(0, 1), power(weight - weight/2 - 3)}},
	}
	for _, n := range []int{2, 3, 8, api.MaxOrder} {
		out = append(out, loaded(t, r, n, n, weight, func(int, int) int { return 1 }))
		out = append(out, loaded(t, r, n, n, weight, func(i, j int) int { return max(0, 3-2*i-j) }))
		out = append(out, loaded(t, r, n, n, weight, func(i, j int) int { return max(0, i-n+2) }))
	}
	for _, m := range out {
		if got := m.weight(); got != weight {
			t.Fatalf("a matrix has the weight %d, not %d", got, weight)
		}
	}
	return out
}

// P5.2, P5.3: weights just at the limit, one less and one more. Only elements in lowest terms that are not 0 count.
func TestWeights(t *testing.T) {
	r := rand.New(rand.NewSource(6))
	for _, f := range weighers() {
		for _, over := range []int{-1, 0, 1, 2} {
			for i, m := range weighed(t, r, f.limit+over) {
				for _, a := range [][][]api.Frac{m.fracs(), m.disguised(r)} {
					empty, err := f.call(a)
					if over > 0 && (err != api.ErrSize || !empty) {
						t.Errorf("%s of matrix %d, weight %d above the limit: error %d", f.name, i, over, err)
					}
					if over <= 0 && err != api.OK && err != api.ErrSingular {
						t.Errorf("%s of matrix %d, weight %d above the limit: error %d", f.name, i, over, err)
					}
				}
			}
		}
	}
}

// P5.2, P5.3: what counts, in matrices with 576 elements of which each has the same weight: a denominator of 1 does not count, 0 does not count, a sign does not count.
func TestWeightOfElements(t *testing.T) {
	n := api.MaxOrder
	for _, c := range []struct {
		text  string
		times int // how many elements it takes to exceed MaxWeight
	}{
		{"7", 634}, {"-7", 634}, {"15", 476}, {"-1024", 173}, {"1/2", 634}, {"-1/2", 634}, {"1/3", 634}, {"2/3", 476}, {"-3/4", 381}, {"1/1024", 159},
	} {
		v, old := parse(c.text)[0][0], parse("0")[0][0]
		part := func(count int) [][]api.Frac {
			return filled(n, n, func(i, j int) *big.Rat {
				if i*n+j < count {
					return v
				}
				return old
			}).fracs()
		}
		if c.times > n*n {
			c.times = n*n + 1
		} else if _, err := linear.Rank(part(c.times)); err != api.ErrSize {
			t.Errorf("Rank of %d times %s: error %d", c.times, c.text, err)
		}
		if got, err := linear.Rank(part(c.times - 1)); err != api.OK || got < 1 || got > 2 {
			t.Errorf("Rank of %d times %s = %d, %d", c.times-1, c.text, got, err)
		}
	}
}

// P5.4: matrices with the weight MaxWeight: few long numbers, many short ones, and rows and columns of very different weights.
func TestLongNumbers(t *testing.T) {
	r := rand.New(rand.NewSource(7))
	for _, n := range []int{1, 2, 3, 5, 9, 16, api.MaxOrder} {
		for _, share := range []func(i, j int) int{
			func(i, j int) int { return 1 },
			func(i, j int) int { return 1 + 40*max(0, 1-i) },             // the first row
			func(i, j int) int { return 1 + 40*max(0, i-n+2) },           // the last row
			func(i, j int) int { return 1 + 40*max(0, 1-j) },             // the first column
			func(i, j int) int { return 1 + 40*max(0, j-n+2) },           // the last column of the matrix, and that behind it
			func(i, j int) int { return 1 + 40*max(0, 1-max(i-j, j-i)) }, // the diagonal
			func(i, j int) int { return 1 + 2000*max(0, 1-i-j) },         // the first element
			func(i, j int) int { return 1 + (i*7+j*5)%4*(j*3+i)%5 },
		} {
			both := loaded(t, r, n, n+1, api.MaxWeight, share)
			m := filled(n, n, func(i, j int) *big.Rat { return both[i][j] })
			checkSolution(t, m, both.transposed()[n], m.fracs(), model{both.transposed()[n]}.fracs()[0])
			m = loaded(t, r, n, n, api.MaxWeight, share)
			checkInverse(t, m, m.fracs())
			checkDet(t, m, m.fracs())
			checkRank(t, m, m.disguised(r))
			if n > 1 {
				m = loaded(t, r, n-1, n, api.MaxWeight, share)
				checkRank(t, m, m.fracs())
				checkRank(t, m.transposed(), m.transposed().fracs())
			}
		}
	}
}

// P5.4: the longest results.
func TestLongestResults(t *testing.T) {
	r := rand.New(rand.NewSource(8))
	top := api.MaxWeight
	for _, m := range []model{{{power(top - 1)}}, {{power(2 - top)}}, {{new(big.Rat).SetInt(dense(r, top))}}, {{new(big.Rat).SetFrac(big.NewInt(1), dense(r, top-1))}}} {
		checkSquare(t, r, m, constant(1, 1, 0)[0])
	}
	long := new(big.Rat).SetFrac(dense(r, top/4), dense(r, top/4))
	checkSquare(t, r, model{{long}}, []*big.Rat{new(big.Rat).Neg(long)})
	last := new(big.Rat).SetFrac(dense(r, top/4), dense(r, top/4))
	checkSolution(t, model{{long}}, []*big.Rat{last}, model{{long}}.fracs(), model{{last}}.fracs()[0])
	for _, n := range []int{2, 6, api.MaxOrder} {
		checkSquare(t, r, filled(n, n, func(int, int) *big.Rat { return new(big.Rat).SetInt(dense(r, top/n/(n+1))) }), constant(1, n, -1)[0])
	}
	// The inverse of such a matrix has whole and very long elements.
	for n := 2; n <= 15; n++ {
		hilbert := filled(n, n, func(i, j int) *big.Rat { return ratio(1, int64(i+j+1)) })
		checkSquare(t, r, hilbert, constant(1, n, 1)[0])
	}
}

// P5.4: products with the weight 2 MaxWeight: one long product, and sums of 24 products whose denominators have no common factor.
func TestLongProducts(t *testing.T) {
	r := rand.New(rand.NewSource(9))
	top := 2 * api.MaxWeight
	for _, c := range [][2]*big.Rat{
		{power(top/2 - 1), power(top/2 - 1)}, {power(2 - top/2), power(2 - top/2)}, {power(top - 2), ratio(-1, 1)}, {ratio(-1, 1), power(3 - top)},
		{new(big.Rat).SetInt(dense(r, top-100)), new(big.Rat).SetInt(dense(r, 100))},
		{new(big.Rat).SetFrac(dense(r, top/4), dense(r, top/4)), new(big.Rat).SetFrac(dense(r, top/4), dense(r, top/4))},
	} {
		checkProducts(t, r, model{{c[0]}}, model{{c[1]}})
	}
	n := api.MaxOrder
	one := func(int, int) int { return 1 }
	for range 4 {
		a := loaded(t, r, 1, n, top/2, one)
		checkProducts(t, r, a, loaded(t, r, 1, n, top/2, one).transposed())
		checkProducts(t, r, loaded(t, r, 1, n, top-n, one), constant(n, 1, 1))
		fractions := filled(1, n, func(int, int) *big.Rat { return new(big.Rat).SetFrac(big.NewInt(-1), dense(r, (top-2*n)/n)) })
		checkProducts(t, r, fractions, constant(n, 1, -1))
		checkProducts(t, r, loaded(t, r, n, n, top/2, one), loaded(t, r, n, n, top/2, one))
		checkProducts(t, r, loaded(t, r, 3, 4, top/2, one), loaded(t, r, 4, 2, top/2, one))
	}
}
