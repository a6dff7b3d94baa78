package exact_test

import (
	"math"
	"math/big"
	"slices"
	"testing"

	"drydock/api"
	"drydock/exact"
)

// nat returns the number v, which is not negative.
func nat(v *big.Int) api.Nat {
	var out api.Nat
	for rest := new(big.Int).Set(v); rest.Sign() > 0; rest.Rsh(rest, 32) {
		out = append(out, uint32(rest.Uint64()))
	}
	return out
}

// frac returns the fraction with the value v in lowest terms.
func frac(v *big.Rat) api.Frac {
	return api.Frac{Neg: v.Sign() < 0, Num: nat(new(big.Int).Abs(v.Num())), Den: nat(v.Denom())}
}

// row returns the fractions of some numbers, with each Num and Den multiplied by a factor.
func row(factor int64, list ...*big.Rat) []api.Frac {
	out := make([]api.Frac, len(list))
	for i, v := range list {
		times := func(x *big.Int) api.Nat { return nat(new(big.Int).Mul(new(big.Int).Abs(x), big.NewInt(factor))) }
		out[i] = api.Frac{Neg: v.Sign() < 0, Num: times(v.Num()), Den: times(v.Denom())}
	}
	return out
}

// samples returns numbers of both signs, of all kinds of denominators.
func samples() []*big.Rat {
	var out []*big.Rat
	for _, num := range []int64{0, 1, -1, 2, -3, 12, -4294967295, 1 << 40, math.MaxInt64} {
		for _, den := range []int64{1, 2, 3, 12, 35, 1 << 33} {
			out = append(out, big.NewRat(num, den))
		}
	}
	return out
}

// same reports an error if x is not the fraction with the value want in lowest terms.
func same(t *testing.T, name string, x api.Frac, want *big.Rat) {
	t.Helper()
	y := frac(want)
	if x.Neg != y.Neg || !slices.Equal(x.Num, y.Num) || !slices.Equal(x.Den, y.Den) {
		t.Errorf("%s = %v, want %v", name, x, want)
	}
}

func TestInteger(t *testing.T) {
	for _, v := range []int64{0, 1, -1, 7, math.MinInt64, math.MaxInt64} {
		same(t, "Integer", exact.Integer(v), big.NewRat(v, 1))
	}
}

func TestOperations(t *testing.T) {
	same(t, "Sum of nothing", exact.Sum(), new(big.Rat))
	for _, a := range samples() {
		x := row(6, a)[0]
		same(t, "Sum", exact.Sum(x), a)
		for _, b := range samples() {
			y := row(10, b)[0]
			same(t, "Sum", exact.Sum(x, y), new(big.Rat).Add(a, b))
			same(t, "Sum", exact.Sum(x, y, x), new(big.Rat).Add(a, new(big.Rat).Add(a, b)))
			same(t, "Difference", exact.Difference(x, y), new(big.Rat).Sub(a, b))
			same(t, "Product", exact.Product(x, y), new(big.Rat).Mul(a, b))
			if b.Sign() != 0 {
				same(t, "Quotient", exact.Quotient(x, y), new(big.Rat).Quo(a, b))
			}
			if got := exact.Order(x, y); got != a.Cmp(b) {
				t.Errorf("Order(%v, %v) = %d", a, b, got)
			}
		}
	}
}

func TestSigns(t *testing.T) {
	for _, v := range samples() {
		x := frac(v)
		if exact.IsZero(x) != (v.Sign() == 0) || exact.IsPositive(x) != (v.Sign() > 0) || exact.IsNegative(x) != (v.Sign() < 0) {
			t.Errorf("the sign of %v", v)
		}
	}
}

func TestReduced(t *testing.T) {
	if len(exact.Reduced()) != 0 {
		t.Error("Reduced of nothing")
	}
	list := samples()
	got := exact.Reduced(row(30, list...), nil, row(1, list[0]))
	if len(got) != 3 || len(got[0]) != len(list) || len(got[1]) != 0 || len(got[2]) != 1 {
		t.Fatalf("Reduced = %v", got)
	}
	for i, v := range list {
		same(t, "Reduced", got[0][i], v)
	}
	same(t, "Reduced", got[2][0], list[0])
}

func TestWeight(t *testing.T) {
	long := new(big.Rat).SetInt(new(big.Int).Lsh(big.NewInt(1), 99))
	for _, c := range []struct {
		list []*big.Rat
		want int
	}{
		{nil, 0}, {[]*big.Rat{big.NewRat(0, 1)}, 0}, {[]*big.Rat{big.NewRat(1, 1)}, 1}, {[]*big.Rat{big.NewRat(-1, 2)}, 3},
		{[]*big.Rat{big.NewRat(-4, 1), big.NewRat(7, 3)}, 8}, {[]*big.Rat{long, new(big.Rat).Inv(long)}, 201},
	} {
		if got := exact.Weight(row(1, c.list...)); got != c.want {
			t.Errorf("Weight(%v) = %d, want %d", c.list, got, c.want)
		}
		if got := exact.Weight(nil, row(1, c.list...), row(1, big.NewRat(3, 1))); got != c.want+2 {
			t.Errorf("Weight of rows with %v = %d, want %d", c.list, got, c.want+2)
		}
	}
	if exact.Weight() != 0 {
		t.Error("Weight of nothing")
	}
}

func TestWhole(t *testing.T) {
	for _, c := range []struct {
		list   []*big.Rat
		factor int64
	}{
		{nil, 1}, {[]*big.Rat{big.NewRat(0, 1), big.NewRat(-5, 1)}, 1}, {[]*big.Rat{big.NewRat(2, 3)}, 3},
		{[]*big.Rat{big.NewRat(1, 6), big.NewRat(-3, 4), big.NewRat(0, 1), big.NewRat(7, 10)}, 60},
		{[]*big.Rat{big.NewRat(5, 1<<33), big.NewRat(1, 1<<20), big.NewRat(-1, 3)}, 3 << 33},
	} {
		got, factor := exact.Whole(row(1, c.list...))
		same(t, "the factor of Whole", factor, big.NewRat(c.factor, 1))
		if len(got) != len(c.list) {
			t.Fatalf("Whole(%v) = %v", c.list, got)
		}
		for i, v := range c.list {
			same(t, "Whole", got[i], new(big.Rat).Mul(v, big.NewRat(c.factor, 1)))
		}
	}
	for _, c := range []struct{ a, num, den, want int64 }{{1, 0, 1, 1}, {6, 5, 1, 6}, {1, -1, 7, 7}, {6, 1, 4, 12}, {6, 4, 9, 18}, {35, 6, 35, 35}, {5, 10, 3, 15}} {
		same(t, "Multiple", exact.Multiple(exact.Integer(c.a), frac(big.NewRat(c.num, c.den))), big.NewRat(c.want, 1))
	}
}

// A result that is large is no fraction, and so is what is computed from it.
func TestLarge(t *testing.T) {
	long := api.Frac{Num: append(make(api.Nat, api.MaxFracLimbs-1), 1), Den: api.Nat{1}}
	square := exact.Product(long, long)
	for _, x := range []api.Frac{square, exact.Sum(square, exact.Integer(1)), exact.Difference(exact.Integer(1), square), exact.Quotient(square, long), exact.Reduced([]api.Frac{square})[0][0]} {
		if x.Neg || x.Num != nil || x.Den != nil {
			t.Errorf("%v is no zero value", x)
		}
	}
}

// Results share no memory with arguments, with each other, or behind their ends.
func TestMemory(t *testing.T) {
	x, y := exact.Integer(6), exact.Integer(35)
	rows := [][]api.Frac{{x, y}}
	whole, factor := exact.Whole(rows[0])
	results := []api.Frac{exact.Sum(x), exact.Sum(x, y), exact.Difference(x, exact.Integer(0)), exact.Product(x, exact.Integer(1)), exact.Quotient(x, exact.Integer(1)), exact.Reduced(rows...)[0][0], exact.Multiple(x, y), whole[0], whole[1], factor}
	for i, r := range append(results, x, y) {
		for _, part := range []api.Nat{r.Num[:cap(r.Num)], r.Den[:cap(r.Den)]} {
			for k := range part {
				part[k] = uint32(i + 100)
			}
		}
	}
	for i, r := range append(results, x, y) {
		if r.Num[0] != uint32(i+100) || r.Den[0] != uint32(i+100) {
			t.Errorf("number %d shares memory", i)
		}
	}
}
