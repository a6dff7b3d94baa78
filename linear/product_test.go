package linear_test

import (
	"math/big"
	"math/rand"
	"testing"

	"drydock/api"
	"drydock/linear"
)

// checkProducts checks Mul, and Apply for each column of b, with elements in lowest terms and in other forms.
func checkProducts(t *testing.T, r *rand.Rand, a, b model) {
	t.Helper()
	want := a.times(b)
	for _, list := range [][2][][]api.Frac{{a.fracs(), b.fracs()}, {a.disguised(r), b.disguised(r)}} {
		got, err := linear.Mul(list[0], list[1])
		checkMatrix(t, "Mul", got, err, want)
	}
	for j, column := range b.transposed() {
		result := want.transposed()[j]
		got, err := linear.Apply(a.fracs(), model{column}.fracs()[0])
		checkVector(t, "Apply", got, err, result)
		got, err = linear.Apply(a.disguised(r), model{column}.disguised(r)[0])
		checkVector(t, "Apply", got, err, result)
	}
}

// P5.2: products written out.
func TestProductsByHand(t *testing.T) {
	for _, c := range []struct{ a, b, want string }{
		{"3/2", "-4/9", "-2/3"},
		{"1 2; 3 4", "5 6; 7 8", "19 22; 43 50"},
		{"5 6; 7 8", "1 2; 3 4", "23 34; 31 46"},
		{"1 2 3", "4; 5; 6", "32"},
		{"4; 5; 6", "1 2 3", "4 8 12; 5 10 15; 6 12 18"},
		{"1/2 1/3; 0 -1", "1/5 1; 2 -3/2", "23/30 0; -2 3/2"},
		{"1 -1", "7 0 1/2; 7 0 1/3", "0 0 1/6"},
		{"0 0; 0 0", "1/3 2; 3 4", "0 0; 0 0"},
	} {
		got, err := linear.Mul(parse(c.a).fracs(), parse(c.b).fracs())
		checkMatrix(t, "Mul", got, err, parse(c.want))
	}
	for _, c := range []struct{ a, v, want string }{
		{"2", "1/2", "1"}, {"1 2; 3 4", "5 6", "17 39"}, {"1 2 3", "1/2 1/3 1/6", "5/3"}, {"1; -2; 0", "3/4", "3/4 -3/2 0"},
	} {
		got, err := linear.Apply(parse(c.a).fracs(), parse(c.v).fracs()[0])
		checkVector(t, "Apply", got, err, parse(c.want)[0])
	}
}

// P5.2: all numbers of rows and columns up to 4, and the greatest ones, with random numbers.
func TestProducts(t *testing.T) {
	r := rand.New(rand.NewSource(1))
	orders := []int{1, 2, 3, 4, api.MaxOrder}
	for _, rows := range orders {
		for _, inner := range orders {
			for _, columns := range orders {
				if rows+inner+columns <= 12 || inner != api.MaxOrder {
					checkProducts(t, r, random(r, rows, inner, inner), random(r, inner, columns, columns))
				}
			}
		}
	}
	sign := func(int, int) *big.Rat { return ratio(int64(1-2*r.Intn(2)), 1) }
	full := func() model { return filled(api.MaxOrder, api.MaxOrder, sign) }
	checkProducts(t, r, full(), full())
	checkProducts(t, r, unit(api.MaxOrder), full())
	for range 100 {
		rows, inner, columns := 1+r.Intn(6), 1+r.Intn(6), 1+r.Intn(6)
		checkProducts(t, r, random(r, rows, inner, inner), random(r, inner, columns, columns))
	}
}

// P5.2: b needs as many rows as a has columns, and a vector as many elements.
func TestProductsOfUnlikeOrders(t *testing.T) {
	for rows := 1; rows <= 4; rows++ {
		for columns := 1; columns <= 4; columns++ {
			for n := 1; n <= 4; n++ {
				a, b := constant(rows, columns, 2), constant(n, rows, 3)
				product, err := linear.Mul(a.fracs(), b.fracs())
				list, fail := linear.Apply(a.fracs(), b.transposed().fracs()[0])
				if n == columns {
					checkMatrix(t, "Mul", product, err, a.times(b))
					checkVector(t, "Apply", list, fail, a.times(constant(n, 1, 3)).transposed()[0])
				} else if err != api.ErrArg || fail != api.ErrArg || len(product)+len(list) != 0 {
					t.Errorf("%d rows and %d columns with %d rows: errors %d and %d", rows, columns, n, err, fail)
				}
			}
		}
	}
}
