package linear_test

import (
	"math/big"
	"math/rand"
	"slices"
	"strings"
	"testing"

	"drydock/api"
	"drydock/fraction"
	"drydock/linear"
	"drydock/testfrac"
)

const edge = 32 * api.MaxFracLimbs // binary digits of the longest numerator or denominator

// model is a matrix whose numbers the tests compute with apart from the program. A vector is a row of one.
type model [][]*big.Rat

// parse returns the model of a text: rows between semicolons, numbers between spaces.
func parse(text string) model {
	var out model
	for part := range strings.SplitSeq(text, ";") {
		var row []*big.Rat
		for word := range strings.FieldsSeq(part) {
			v, ok := new(big.Rat).SetString(word)
			if !ok {
				panic("no number: " + word)
			}
			row = append(row, v)
		}
		out = append(out, row)
	}
	return out
}

// filled returns the model with elements that a function gives.
func filled(rows, columns int, element func(i, j int) *big.Rat) model {
	out := make(model, rows)
	for i := range out {
		out[i] = make([]*big.Rat, columns)
		for j := range out[i] {
			out[i][j] = element(i, j)
		}
	}
	return out
}

// constant returns the model whose elements are all v.
func constant(rows, columns int, v int64) model {
	return filled(rows, columns, func(int, int) *big.Rat { return ratio(v, 1) })
}

// unit returns the model of the identity.
func unit(n int) model {
	return filled(n, n, func(i, j int) *big.Rat {
		if i == j {
			return ratio(1, 1)
		}
		return ratio(0, 1)
	})
}

// copied returns a copy of m.
func (m model) copied() model {
	return filled(len(m), len(m[0]), func(i, j int) *big.Rat { return new(big.Rat).Set(m[i][j]) })
}

// transposed returns the model whose rows are the columns of m.
func (m model) transposed() model {
	return filled(len(m[0]), len(m), func(i, j int) *big.Rat { return m[j][i] })
}

// times returns the product of m and b.
func (m model) times(b model) model {
	return filled(len(m), len(b[0]), func(i, j int) *big.Rat {
		sum := new(big.Rat)
		for k, x := range m[i] {
			sum.Add(sum, new(big.Rat).Mul(x, b[k][j]))
		}
		return sum
	})
}

// triangle brings m into the form of a triangle, with fractions, and returns its rank and, for a square one, its determinant.
func (m model) triangle() (int, *big.Rat) {
	rank, det, a := 0, ratio(1, 1), m.copied()
	for j := range a[0] {
		i := rank
		for i < len(a) && a[i][j].Sign() == 0 {
			i++
		}
		if i == len(a) {
			det = new(big.Rat)
			continue
		}
		if i != rank {
			a[i], a[rank] = a[rank], a[i]
			det.Neg(det)
		}
		det.Mul(det, a[rank][j])
		for _, row := range a[rank+1:] {
			factor := new(big.Rat).Quo(row[j], a[rank][j])
			for k := j; k < len(row); k++ {
				row[k].Sub(row[k], new(big.Rat).Mul(factor, a[rank][k]))
			}
		}
		rank++
	}
	return rank, det
}

// weight returns the weight of all elements of m.
func (m model) weight() int {
	total := 0
	for _, v := range slices.Concat(m...) {
		total += v.Num().BitLen()
		if !v.IsInt() {
			total += v.Denom().BitLen()
		}
	}
	return total
}

// fracs returns the matrix with the elements of m in lowest terms.
func (m model) fracs() [][]api.Frac {
	out := make([][]api.Frac, len(m))
	for i, row := range m {
		for _, v := range row {
			out[i] = append(out[i], frac(v))
		}
	}
	return out
}

// disguised returns the matrix with the elements of m in other forms.
func (m model) disguised(r *rand.Rand) [][]api.Frac {
	out := m.fracs()
	for i, row := range out {
		out[i] = testfrac.Disguised(r.Intn, row)
	}
	return out
}

// valued returns the model of a matrix.
func valued(a [][]api.Frac) model {
	out := make(model, len(a))
	for i, row := range a {
		for _, x := range row {
			out[i] = append(out[i], value(x))
		}
	}
	return out
}

// ratio returns num / den.
func ratio(num, den int64) *big.Rat {
	return big.NewRat(num, den)
}

// power returns 2^n, for every n.
func power(n int) *big.Rat {
	out := new(big.Rat).SetInt(new(big.Int).Lsh(big.NewInt(1), uint(max(n, -n))))
	if n < 0 {
		out.Inv(out)
	}
	return out
}

// frac returns the fraction with the value v in lowest terms.
func frac(v *big.Rat) api.Frac {
	x, err := fraction.Parse(v.RatString())
	if err != api.OK {
		panic("no fraction: " + v.RatString())
	}
	return x
}

// value returns the value of x.
func value(x api.Frac) *big.Rat {
	text, _ := fraction.Format(x)
	v, ok := new(big.Rat).SetString(text)
	if !ok {
		panic("no value: " + text)
	}
	return v
}

// identical reports whether x and y are the same, part by part. nil and empty parts are the same.
func identical(x, y api.Frac) bool {
	return x.Neg == y.Neg && slices.Equal(x.Num, y.Num) && slices.Equal(x.Den, y.Den)
}

// same reports whether a and b have the same elements, part by part.
func same(a, b [][]api.Frac) bool {
	return slices.EqualFunc(a, b, func(x, y []api.Frac) bool { return slices.EqualFunc(x, y, identical) })
}

// number returns a random number, often 0.
func number(r *rand.Rand) *big.Rat {
	return ratio(int64(max(r.Intn(12)-3, 0)*(1-2*r.Intn(2))), int64(1+r.Intn(6)))
}

// random returns a matrix of random numbers with at most the given rank.
func random(r *rand.Rand, rows, columns, rank int) model {
	element := func(int, int) *big.Rat { return number(r) }
	if rank >= min(rows, columns) {
		return filled(rows, columns, element)
	}
	if rank == 0 {
		return constant(rows, columns, 0)
	}
	return filled(rows, rank, element).times(filled(rank, columns, element))
}

// dense returns an odd number of the given number of binary digits.
func dense(r *rand.Rand, digits int) *big.Int {
	out := new(big.Int).Rand(r, new(big.Int).Lsh(big.NewInt(1), uint(digits-1)))
	return out.SetBit(out.SetBit(out, digits-1, 1), 0, 1)
}

// loaded returns a matrix with random numbers in the places for which share is not 0, in proportion to it, and with exactly the given weight.
func loaded(t *testing.T, r *rand.Rand, rows, columns, weight int, share func(i, j int) int) model {
	t.Helper()
	total, last := 0, new(big.Rat)
	filled(rows, columns, func(i, j int) *big.Rat { total += share(i, j); return nil })
	out := filled(rows, columns, func(i, j int) *big.Rat {
		digits := weight * share(i, j) / total
		if digits == 0 {
			return ratio(0, 1)
		}
		if last = new(big.Rat).SetInt(dense(r, digits)); digits >= 4 {
			last.SetFrac(dense(r, digits/2), dense(r, digits/2))
		}
		return last
	})
	// All denominators are odd, so that a power of 2 adds its exponent to the weight.
	last.Mul(last, power(weight-out.weight()))
	if out.weight() != weight {
		t.Fatalf("the matrix has the weight %d, not %d", out.weight(), weight)
	}
	return out
}

// checkMatrix compares a result with a model.
func checkMatrix(t *testing.T, name string, got [][]api.Frac, err api.Errno, want model) {
	t.Helper()
	if err != api.OK || !same(got, want.fracs()) {
		t.Errorf("%s = %v, %d, want %v", name, got, err, want)
	}
}

// checkVector compares a result with the model of a vector.
func checkVector(t *testing.T, name string, got []api.Frac, err api.Errno, want []*big.Rat) {
	t.Helper()
	checkMatrix(t, name, [][]api.Frac{got}, err, model{want})
}

// checkDet checks the determinant of m, given in some form.
func checkDet(t *testing.T, m model, a [][]api.Frac) {
	t.Helper()
	_, want := m.triangle()
	got, err := linear.Det(a)
	if err != api.OK || !identical(got, frac(want)) {
		t.Errorf("Det(%v) = %v, %d, want %v", m, got, err, want)
	}
}

// checkRank checks the rank of m, given in some form.
func checkRank(t *testing.T, m model, a [][]api.Frac) {
	t.Helper()
	want, _ := m.triangle()
	if got, err := linear.Rank(a); err != api.OK || got != want {
		t.Errorf("Rank(%v) = %d, %d, want %d", m, got, err, want)
	}
}

// checkInverse checks the inverse of m, given in some form: by its product with m, or that there is none.
func checkInverse(t *testing.T, m model, a [][]api.Frac) {
	t.Helper()
	got, err := linear.Invert(a)
	if rank, _ := m.triangle(); rank < len(m) {
		if err != api.ErrSingular || len(got) != 0 {
			t.Errorf("Invert(%v) = %v, %d, want ErrSingular", m, got, err)
		}
		return
	}
	if err != api.OK || !same(got, valued(got).fracs()) {
		t.Fatalf("Invert(%v) = %v, %d", m, got, err)
	}
	checkMatrix(t, "the product with the inverse", m.times(valued(got)).fracs(), err, unit(len(m)))
}

// checkSolution checks the solution for the column b, given in some form: by its product with m, or that there is none.
func checkSolution(t *testing.T, m model, b []*big.Rat, a [][]api.Frac, v []api.Frac) {
	t.Helper()
	got, err := linear.Solve(a, v)
	if rank, _ := m.triangle(); rank < len(m) {
		if err != api.ErrSingular || len(got) != 0 {
			t.Errorf("Solve(%v, %v) = %v, %d, want ErrSingular", m, b, got, err)
		}
		return
	}
	x := [][]api.Frac{got}
	if err != api.OK || len(got) != len(m) || !same(x, valued(x).fracs()) {
		t.Fatalf("Solve(%v, %v) = %v, %d", m, b, got, err)
	}
	checkMatrix(t, "the product with the solution", m.times(valued(x).transposed()).fracs(), err, model{b}.transposed())
}
