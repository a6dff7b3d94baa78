package linear_test

import (
	"math"
	"testing"

	"drydock/api"
	"drydock/linear"
	"drydock/testfrac"
)

// checkShape checks the result of Shape. Where ok is false, both numbers are 0.
func checkShape(t *testing.T, name string, a [][]api.Frac, rows, columns int, ok bool) {
	t.Helper()
	if m, n, is := linear.Shape(a); m != rows || n != columns || is != ok {
		t.Errorf("Shape of %s = %d, %d, %v, want %d, %d, %v", name, m, n, is, rows, columns, ok)
	}
}

// P5.1: all numbers of rows and columns.
func TestShape(t *testing.T) {
	for rows := 1; rows <= api.MaxOrder+1; rows++ {
		for columns := 1; columns <= api.MaxOrder+1; columns++ {
			a := constant(rows, columns, 3).fracs()
			if rows > api.MaxOrder || columns > api.MaxOrder {
				checkShape(t, "a large matrix", a, 0, 0, false)
			} else {
				checkShape(t, "a matrix", a, rows, columns, true)
			}
		}
	}
	checkShape(t, "nil", nil, 0, 0, false)
	checkShape(t, "no rows", [][]api.Frac{}, 0, 0, false)
	for _, rows := range []int{1, 2, api.MaxOrder, api.MaxOrder + 1, 1 << 20} {
		checkShape(t, "rows that are nil", make([][]api.Frac, rows), 0, 0, false)
	}
	checkShape(t, "a row without elements", [][]api.Frac{{}}, 0, 0, false)
	checkShape(t, "a long row", [][]api.Frac{make([]api.Frac, 1<<20)}, 0, 0, false)
}

// P5.1: one row that is shorter or longer than the others.
func TestShapeOfUnequalRows(t *testing.T) {
	for _, rows := range []int{2, 3, api.MaxOrder} {
		for _, columns := range []int{1, 2, 5, api.MaxOrder} {
			for i := range rows {
				a := constant(rows, columns, 1).fracs()
				a[i] = a[i][:columns-1]
				checkShape(t, "rows of different lengths", a, 0, 0, false)
				a[i] = constant(1, columns+1, 1).fracs()[0]
				checkShape(t, "rows of different lengths", a, 0, 0, false)
				a[i] = nil
				checkShape(t, "a matrix with a row that is nil", a, 0, 0, false)
			}
		}
	}
}

// P5.1: an element that is not valid, in every place, and elements that are valid in every form.
func TestShapeOfElements(t *testing.T) {
	for _, order := range [][2]int{{1, 1}, {1, 3}, {3, 1}, {2, 2}, {3, 4}, {api.MaxOrder, api.MaxOrder}} {
		rows, columns := order[0], order[1]
		for i := range rows {
			for j := range columns {
				a := constant(rows, columns, 0).fracs()
				for _, a[i][j] = range testfrac.Invalid() {
					checkShape(t, "a matrix with an element that is not valid", a, 0, 0, false)
				}
				for _, v := range parse("0 1 -2/3 1000000007/998244353")[0] {
					for _, a[i][j] = range testfrac.Forms(frac(v)) {
						checkShape(t, "a matrix with an element of any form", a, rows, columns, true)
					}
				}
			}
		}
	}
	longest := frac(power(edge - 1))
	checkShape(t, "the longest number", [][]api.Frac{{longest, {Num: api.Nat{1}, Den: longest.Num}}}, 1, 2, true)
}

// P5.1
func TestIdentity(t *testing.T) {
	for n := 1; n <= api.MaxOrder; n++ {
		a, err := linear.Identity(n)
		checkMatrix(t, "Identity", a, err, unit(n))
	}
	for _, n := range []int{0, -1, -api.MaxOrder, api.MaxOrder + 1, 1 << 40, math.MinInt, math.MaxInt} {
		if a, err := linear.Identity(n); err != api.ErrArg || len(a) != 0 {
			t.Errorf("Identity(%d) = %v, %d, want ErrArg", n, a, err)
		}
	}
}
