package fraction_test

import (
	"math"
	"math/big"
	"math/rand"
	"slices"
	"testing"

	"drydock/api"
	"drydock/fraction"
)

func reduce(l []api.Frac) answer {
	x, err := fraction.Reduce(l[0])
	return answer{frac: x, err: err}
}

func compare(l []api.Frac) answer {
	c, err := fraction.Cmp(l[0], l[1])
	return answer{num: c, err: err}
}

// valid returns 1 for a valid fraction.
func valid(l []api.Frac) answer {
	if fraction.Valid(l[0]) {
		return answer{num: 1}
	}
	return answer{}
}

// P2.1
func TestMake(t *testing.T) {
	ends := []int64{math.MinInt64, math.MinInt64 + 1, math.MinInt64 / 2, -1 << 32, -top, -6, -4, -3, -2, -1, 0, 1, 2, 3, 4, 6, top, 1 << 32, math.MaxInt64 - 1, math.MaxInt64}
	for _, num := range ends {
		for _, den := range ends {
			call := func([]api.Frac) answer {
				x, err := fraction.Make(num, den)
				return answer{frac: x, err: err}
			}
			want := answer{err: api.ErrZero}
			if den != 0 {
				want = right(ratio(num, den))
			}
			if got := ask(t, call); !got.equal(want) {
				t.Errorf("Make(%d, %d): got %v, want %v", num, den, got, want)
			}
		}
	}
	for _, c := range []struct {
		num, den int64
		want     api.Frac
	}{
		{6, -4, api.Frac{Neg: true, Num: api.Nat{3}, Den: api.Nat{2}}},
		{0, -5, api.Frac{Den: api.Nat{1}}},
		{math.MinInt64, 1, api.Frac{Neg: true, Num: api.Nat{0, 1 << 31}, Den: api.Nat{1}}},
		{1, math.MinInt64, api.Frac{Neg: true, Num: api.Nat{1}, Den: api.Nat{0, 1 << 31}}},
		{math.MinInt64, math.MinInt64, api.Frac{Num: api.Nat{1}, Den: api.Nat{1}}},
		{math.MinInt64, -1, api.Frac{Num: api.Nat{0, 1 << 31}, Den: api.Nat{1}}},
	} {
		if got, err := fraction.Make(c.num, c.den); !same(got, c.want) || err != api.OK {
			t.Errorf("Make(%d, %d) = %v, %d", c.num, c.den, got, err)
		}
	}
	for _, num := range []int64{math.MinInt64, -1, 0, 1} {
		if got, err := fraction.Make(num, 0); !same(got, api.Frac{}) || err != api.ErrZero {
			t.Errorf("Make(%d, 0) = %v, %d", num, got, err)
		}
	}
}

// P2.1
func TestValid(t *testing.T) {
	for _, x := range samples() {
		for _, form := range forms(x) {
			expect(t, ask(t, valid, form), answer{num: 1}, form)
		}
	}
	for _, x := range invalid() {
		expect(t, ask(t, valid, x), answer{}, x)
		expect(t, ask(t, valid, negated(x)), answer{}, negated(x))
	}
	zeros := repeat(3*full, 0)
	for _, x := range []api.Frac{
		{Den: api.Nat{1}}, {Neg: true, Den: api.Nat{1}}, {Num: api.Nat{}, Den: api.Nat{0, 0, 1, 0}}, {Num: zeros, Den: repeat(full, top)},
		{Num: repeat(full, top), Den: repeat(full, top)}, {Num: slices.Concat(repeat(full, top), zeros), Den: slices.Concat(repeat(full, 1), zeros)},
	} {
		expect(t, ask(t, valid, x), answer{num: 1}, x)
	}
}

// checkReduce compares Reduce with the form in lowest terms that was computed apart from the program.
func checkReduce(t *testing.T, x api.Frac) {
	t.Helper()
	want := answer{err: api.ErrArg}
	if isValid(x) {
		want = answer{frac: frac(value(x))}
	}
	expect(t, ask(t, reduce, x), want, x)
}

// P2.1, and P2.6: equal numbers have equal results.
func TestReduce(t *testing.T) {
	for _, x := range samples() {
		for _, form := range forms(x) {
			checkReduce(t, form)
		}
	}
	for _, x := range invalid() {
		checkReduce(t, x)
	}
	for num := range int64(40) {
		for den := range int64(40) {
			checkReduce(t, over(big.NewInt(num), big.NewInt(den)))
			checkReduce(t, negated(over(big.NewInt(num), big.NewInt(den))))
		}
	}
	zero := api.Frac{Den: api.Nat{1}}
	for _, x := range []api.Frac{{Neg: true, Den: api.Nat{1}}, {Neg: true, Num: api.Nat{0, 0}, Den: api.Nat{9, 0}}, {Num: repeat(700, 0), Den: repeat(full, top)}} {
		expect(t, ask(t, reduce, x), answer{frac: zero}, x)
	}
}

// P2.1: numbers with common factors of all sizes, also powers of 2.
func TestReduceCommonFactors(t *testing.T) {
	r := rand.New(rand.NewSource(1))
	for range 3000 {
		checkReduce(t, randomFrac(r, 1+r.Intn(12)))
	}
	for range 100 {
		checkReduce(t, randomFrac(r, full))
	}
	for i := 0; i < edge; i += 61 {
		for j := 0; j < edge; j += 509 {
			checkReduce(t, over(power(i), power(j)))
			checkReduce(t, over(new(big.Int).Neg(below(i+1)), power(j)))
			checkReduce(t, over(new(big.Int).Mul(big.NewInt(3), power(i/2)), new(big.Int).Mul(big.NewInt(9), power(j/2))))
		}
	}
}

// checkCmp compares Cmp with the comparison of the values.
func checkCmp(t *testing.T, x, y api.Frac) {
	t.Helper()
	want := answer{err: api.ErrArg}
	if isValid(x) && isValid(y) {
		want = answer{num: value(x).Cmp(value(y))}
	}
	expect(t, ask(t, compare, x, y), want, x, y)
}

// P2.1
func TestCmp(t *testing.T) {
	pairs(func(x, y api.Frac) { checkCmp(t, x, y) })
	for _, zero := range forms(api.Frac{Den: api.Nat{1}}) {
		for _, x := range []api.Frac{zero, {Num: api.Nat{1}, Den: repeat(full, top)}, {Neg: true, Num: api.Nat{1}, Den: repeat(full, top)}, {Neg: true, Den: api.Nat{2}}, {Den: api.Nat{2}}} {
			checkCmp(t, zero, x)
			checkCmp(t, x, zero)
		}
	}
	r := rand.New(rand.NewSource(2))
	for range 3000 {
		x, y := randomFrac(r, 3), randomFrac(r, 3)
		checkCmp(t, x, y)
		checkCmp(t, x, pick(frac(value(x)), r.Intn(20)))
	}
}

// P2.1: fractions that differ as little as two valid fractions can.
func TestCmpOfNeighbours(t *testing.T) {
	one := big.NewInt(1)
	for _, n := range []int{32, 64, 1000, edge - 1, edge} {
		greater := over(below(n), new(big.Int).Sub(below(n), one))
		less := over(new(big.Int).Sub(below(n), one), new(big.Int).Sub(below(n), big.NewInt(2)))
		for _, c := range []struct{ x, y api.Frac }{{greater, less}, {less, greater}, {negated(greater), negated(less)}, {greater, negated(less)}, {greater, greater}} {
			checkCmp(t, c.x, c.y)
		}
	}
}

// P2.6: Cmp is a total order that addition and multiplication by positive numbers respect.
func TestOrder(t *testing.T) {
	r := rand.New(rand.NewSource(3))
	order := func(x, y api.Frac) int {
		c, err := fraction.Cmp(x, y)
		if err != api.OK {
			t.Errorf("Cmp(%v, %v): error %d", x, y, err)
		}
		return c
	}
	for range 2000 {
		x, y, z := randomFrac(r, 4), randomFrac(r, 4), randomFrac(r, 4)
		c := order(x, y)
		if order(y, x) != -c || order(x, x) != 0 {
			t.Errorf("Cmp(%v, %v) = %d, and the other way round %d", x, y, c, order(y, x))
		}
		if c <= 0 && order(y, z) <= 0 && order(x, z) > 0 {
			t.Errorf("the order of %v, %v, %v", x, y, z)
		}
		if order(must(t, fraction.Add, x, z), must(t, fraction.Add, y, z)) != c {
			t.Errorf("addition of %v changes the order of %v, %v", z, x, y)
		}
		if integer(z.Num).Sign() != 0 {
			z.Neg = false
			if order(must(t, fraction.Mul, x, z), must(t, fraction.Mul, y, z)) != c {
				t.Errorf("multiplication by %v changes the order of %v, %v", z, x, y)
			}
		}
	}
}

// must returns f(x, y), which is no error.
func must(t *testing.T, f func(x, y api.Frac) (api.Frac, api.Errno), x, y api.Frac) api.Frac {
	t.Helper()
	z, err := f(x, y)
	if err != api.OK {
		t.Fatalf("%v, %v: error %d", x, y, err)
	}
	return z
}
