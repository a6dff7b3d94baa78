package linear_test

import (
	"math/rand"
	"testing"

	"drydock/api"
	"drydock/linear"
)

// P5.5: Solve is Apply of the inverse, and both are refused alike.
func TestSolveByInverse(t *testing.T) {
	r := rand.New(rand.NewSource(10))
	for range 300 {
		n := 1 + r.Intn(5)
		a, b := random(r, n, n, max(0, n-r.Intn(2))).disguised(r), random(r, 1, n, 1).disguised(r)[0]
		x, err := linear.Solve(a, b)
		inverse, fail := linear.Invert(a)
		if err != fail {
			t.Errorf("Solve: error %d, Invert: error %d", err, fail)
		}
		if err == api.OK {
			y, fail := linear.Apply(inverse, b)
			checkVector(t, "Apply of the inverse", y, fail, valued([][]api.Frac{x})[0])
			back, fail := linear.Apply(a, x)
			checkVector(t, "Apply to the solution", back, fail, valued([][]api.Frac{b})[0])
		}
	}
}

// P5.5: the product with the inverse is the identity, on both sides, and the inverse of the inverse is the matrix.
func TestInverseTwice(t *testing.T) {
	r := rand.New(rand.NewSource(11))
	for range 200 {
		m := random(r, 1+r.Intn(4), 1, 1)
		m = random(r, len(m), len(m), len(m))
		inverse, err := linear.Invert(m.fracs())
		if err == api.ErrSingular {
			continue
		}
		left, fail := linear.Mul(m.disguised(r), inverse)
		checkMatrix(t, "the product with the inverse", left, fail, unit(len(m)))
		right, fail := linear.Mul(inverse, m.disguised(r))
		checkMatrix(t, "the product of the inverse", right, fail, unit(len(m)))
		again, fail := linear.Invert(inverse)
		checkMatrix(t, "the inverse of the inverse", again, fail, m)
	}
}

// P5.5: the determinant of a product is the product of the determinants.
func TestDetOfProduct(t *testing.T) {
	r := rand.New(rand.NewSource(12))
	for range 300 {
		n := 1 + r.Intn(4)
		a, b := random(r, n, n, n).fracs(), random(r, n, n, max(1, n-r.Intn(3)/2)).fracs()
		product, _ := linear.Mul(a, b)
		x, err := linear.Det(a)
		y, fail := linear.Det(b)
		z, wrong := linear.Det(product)
		if want := frac(model{{value(x)}}.times(model{{value(y)}})[0][0]); err != api.OK || fail != api.OK || wrong != api.OK || !identical(z, want) {
			t.Errorf("the determinants are %v, %v and, of the product, %v", value(x), value(y), value(z))
		}
	}
}

// P5.5: a matrix is singular if and only if its rank is less than its number of rows, or its determinant is 0.
func TestSingular(t *testing.T) {
	r := rand.New(rand.NewSource(13))
	regular := 0
	for range 400 {
		n := 1 + r.Intn(5)
		a := random(r, n, n, n-r.Intn(2)).disguised(r)
		_, err := linear.Invert(a)
		_, fail := linear.Solve(a, constant(1, n, 0).fracs()[0])
		rank, _ := linear.Rank(a)
		det, _ := linear.Det(a)
		singular := err == api.ErrSingular
		if singular != (fail == api.ErrSingular) || singular != (rank < n) || singular != identical(det, frac(ratio(0, 1))) {
			t.Errorf("errors %d and %d, the rank %d of %d, the determinant %v", err, fail, rank, n, value(det))
		}
		if !singular {
			regular++
		}
	}
	if regular < 50 || regular > 350 {
		t.Errorf("%d of 400 matrices are regular", regular)
	}
}

// P5.5: the rank of a matrix is that of its transpose.
func TestRankOfTranspose(t *testing.T) {
	r := rand.New(rand.NewSource(14))
	for range 400 {
		rows, columns := 1+r.Intn(7), 1+r.Intn(7)
		m := random(r, rows, columns, r.Intn(min(rows, columns)+1))
		first, err := linear.Rank(m.fracs())
		second, fail := linear.Rank(m.transposed().disguised(r))
		if err != api.OK || fail != api.OK || first != second {
			t.Errorf("Rank(%v) = %d, %d, of the transpose %d, %d", m, first, err, second, fail)
		}
	}
}
