package fraction_test

import (
	"math/big"
	"math/rand"
	"slices"
	"testing"

	"drydock/api"
	"drydock/fraction"
)

// operation is one of the four functions, and what it computes.
type operation struct {
	call  func(x, y api.Frac) (api.Frac, api.Errno)
	value func(z, x, y *big.Rat) *big.Rat
	quo   bool
}

func operations() []operation {
	return []operation{
		{fraction.Add, (*big.Rat).Add, false}, {fraction.Sub, (*big.Rat).Sub, false},
		{fraction.Mul, (*big.Rat).Mul, false}, {fraction.Quo, (*big.Rat).Quo, true},
	}
}

// check compares the operation with the result or the error that the document asks for.
func (o operation) check(t *testing.T, x, y api.Frac) {
	t.Helper()
	f := func(l []api.Frac) answer {
		z, err := o.call(l[0], l[1])
		return answer{frac: z, err: err}
	}
	want := answer{}
	switch {
	case !isValid(x) || !isValid(y):
		want.err = api.ErrArg
	case o.quo && integer(y.Num).Sign() == 0:
		want.err = api.ErrZero
	default:
		want = right(o.value(new(big.Rat), value(x), value(y)))
	}
	expect(t, ask(t, f, x, y), want, x, y)
}

// P2.2: all operations, with every error.
func TestOperations(t *testing.T) {
	for _, o := range operations() {
		pairs(func(x, y api.Frac) { o.check(t, x, y) })
	}
}

// P2.2: small numbers of both signs, all of them with all others.
func TestSmallOperations(t *testing.T) {
	var list []api.Frac
	for num := int64(-6); num <= 6; num++ {
		for _, den := range []int64{1, 2, 3, 6, 8} {
			list = append(list, over(big.NewInt(num), big.NewInt(den)))
		}
	}
	list = append(list, api.Frac{Neg: true, Den: api.Nat{7, 0}})
	for _, o := range operations() {
		for _, x := range list {
			for _, y := range list {
				o.check(t, x, y)
			}
		}
	}
}

// P2.2
func TestRandomOperations(t *testing.T) {
	r := rand.New(rand.NewSource(4))
	for _, o := range operations() {
		for range 2000 {
			o.check(t, randomFrac(r, 1+r.Intn(6)), randomFrac(r, 1+r.Intn(6)))
		}
		for range 40 {
			o.check(t, randomFrac(r, full/2), randomFrac(r, full/2))
			x := randomFrac(r, full)
			o.check(t, x, x)
			o.check(t, x, negated(x))
		}
	}
}

// P2.2: results of exactly MaxFracLimbs limbs and of one more.
func TestResultsAtTheLimit(t *testing.T) {
	add, sub, mul, quo := operations()[0], operations()[1], operations()[2], operations()[3]
	one, greatest, least := ratio(1, 1), whole(below(edge)), new(big.Rat).SetFrac(big.NewInt(1), power(edge-1))
	for _, c := range []struct {
		o    operation
		x, y *big.Rat
		err  api.Errno
	}{
		{add, whole(new(big.Int).Sub(below(edge), big.NewInt(1))), one, api.OK},
		{add, greatest, one, api.ErrSize},
		{add, greatest, ratio(-1, 1), api.OK},
		{sub, greatest, ratio(-1, 1), api.ErrSize},
		{sub, greatest, greatest, api.OK},
		{sub, greatest, one, api.OK},
		{add, greatest, least, api.ErrSize},
		{add, whole(power(edge - 1)), whole(power(edge - 1)), api.ErrSize},
		{add, least, least, api.OK},
		{add, least, one, api.OK},
		{sub, one, least, api.OK},
		{mul, whole(power(edge / 2)), whole(power(edge/2 - 1)), api.OK},
		{mul, whole(power(edge / 2)), whole(power(edge / 2)), api.ErrSize},
		{mul, least, ratio(1, 2), api.ErrSize},
		{mul, least, whole(power(edge - 1)), api.OK},
		{mul, least, ratio(2, 1), api.OK},
		{quo, least, ratio(2, 1), api.ErrSize},
		{quo, least, ratio(1, 2), api.OK},
		{quo, one, least, api.OK},
		{quo, ratio(2, 1), least, api.ErrSize},
		{quo, greatest, greatest, api.OK},
		{quo, greatest, least, api.ErrSize},
		{quo, least, least, api.OK},
	} {
		x, y := frac(c.x), frac(c.y)
		c.o.check(t, x, y)
		if _, err := c.o.call(x, y); err != c.err {
			t.Errorf("%v, %v: error %d, want %d", c.x, c.y, err, c.err)
		}
		for _, form := range forms(x) {
			c.o.check(t, form, y)
		}
	}
}

// P2.2: the order of the errors.
func TestOperationErrors(t *testing.T) {
	zero := api.Frac{Neg: true, Num: api.Nat{0}, Den: api.Nat{3}}
	huge := frac(whole(below(edge)))
	for _, o := range operations() {
		for _, bad := range invalid() {
			for _, x := range []api.Frac{zero, huge, bad} {
				o.check(t, bad, x)
				o.check(t, x, bad)
			}
		}
	}
	if z, err := fraction.Quo(huge, zero); err != api.ErrZero || !same(z, api.Frac{}) {
		t.Errorf("Quo by 0: %v, %d", z, err)
	}
	if z, err := fraction.Quo(zero, zero); err != api.ErrZero || !same(z, api.Frac{}) {
		t.Errorf("Quo of 0 by 0: %v, %d", z, err)
	}
	if z, err := fraction.Quo(api.Frac{}, zero); err != api.ErrArg || !same(z, api.Frac{}) {
		t.Errorf("Quo: ErrArg comes before ErrZero: %v, %d", z, err)
	}
	if z, err := fraction.Quo(zero, api.Frac{}); err != api.ErrArg || !same(z, api.Frac{}) {
		t.Errorf("Quo by 0/0: %v, %d", z, err)
	}
}

func sum(l []api.Frac) answer {
	z, err := fraction.Sum(l...)
	return answer{frac: z, err: err}
}

// P2.3
func TestSum(t *testing.T) {
	zero := api.Frac{Den: api.Nat{1}}
	if got, err := fraction.Sum(); !same(got, zero) || err != api.OK {
		t.Errorf("Sum() = %v, %d", got, err)
	}
	expect(t, ask(t, sum), answer{frac: zero})
	half, third := api.Frac{Num: api.Nat{1}, Den: api.Nat{2}}, api.Frac{Num: api.Nat{2, 0}, Den: api.Nat{6}}
	if got, err := fraction.Sum(half, third, third); !same(got, api.Frac{Num: api.Nat{7}, Den: api.Nat{6}}) || err != api.OK {
		t.Errorf("Sum(1/2, 1/3, 1/3) = %v, %d", got, err)
	}
	expect(t, ask(t, sum, half, negated(half)), answer{frac: zero}, half, negated(half))
	for _, x := range samples() {
		for _, form := range forms(x) {
			expect(t, ask(t, sum, form), answer{frac: x}, form)
		}
	}
	r := rand.New(rand.NewSource(5))
	for range 300 {
		list, total := []api.Frac{}, new(big.Rat)
		for range r.Intn(20) {
			x := randomFrac(r, 3)
			list = append(list, x)
			total.Add(total, value(x))
		}
		expect(t, ask(t, sum, list...), right(total), list...)
	}
}

// P2.3: the first addition that fails gives the error, even if the whole sum is not large.
func TestSumErrors(t *testing.T) {
	huge, one, bad := frac(whole(below(edge))), api.Frac{Num: api.Nat{1}, Den: api.Nat{1}}, api.Frac{Num: api.Nat{1}, Den: api.Nat{0}}
	tooLong := api.Frac{Num: repeat(full+1, 1), Den: api.Nat{1}}
	for _, c := range []struct {
		list []api.Frac
		err  api.Errno
	}{
		{[]api.Frac{huge, one, bad}, api.ErrSize},
		{[]api.Frac{huge, bad, one}, api.ErrArg},
		{[]api.Frac{bad, huge, one}, api.ErrArg},
		{[]api.Frac{huge, one, negated(one)}, api.ErrSize},
		{[]api.Frac{huge, negated(one), one}, api.OK},
		{[]api.Frac{negated(one), huge, one}, api.OK},
		{[]api.Frac{one, huge, negated(huge)}, api.ErrSize},
		{[]api.Frac{negated(huge), negated(one), huge}, api.ErrSize},
		{[]api.Frac{tooLong}, api.ErrArg},
		{[]api.Frac{one, tooLong, negated(tooLong)}, api.ErrArg},
		{[]api.Frac{{}}, api.ErrArg},
		{[]api.Frac{one, one, one, bad}, api.ErrArg},
	} {
		got := ask(t, sum, c.list...)
		if got.err != c.err || c.err != api.OK && !same(got.frac, api.Frac{}) {
			t.Errorf("%v: got %v, want error %d", c.list, got, c.err)
		}
		if c.err == api.OK && !same(got.frac, huge) {
			t.Errorf("%v: got %v", c.list, got.frac)
		}
	}
}

// P2.6: the field laws.
func TestFieldLaws(t *testing.T) {
	r := rand.New(rand.NewSource(6))
	add := func(x, y api.Frac) api.Frac { return must(t, fraction.Add, x, y) }
	sub := func(x, y api.Frac) api.Frac { return must(t, fraction.Sub, x, y) }
	mul := func(x, y api.Frac) api.Frac { return must(t, fraction.Mul, x, y) }
	quo := func(x, y api.Frac) api.Frac { return must(t, fraction.Quo, x, y) }
	zero, one := api.Frac{Den: api.Nat{1}}, api.Frac{Num: api.Nat{1}, Den: api.Nat{1}}
	for range 1000 {
		x, y, z := randomFrac(r, 5), randomFrac(r, 5), randomFrac(r, 5)
		lowest := frac(value(x))
		for name, both := range map[string][2]api.Frac{
			"x+y = y+x":         {add(x, y), add(y, x)},
			"(x+y)+z = x+(y+z)": {add(add(x, y), z), add(x, add(y, z))},
			"x+0 = x":           {add(x, zero), lowest},
			"x-x = 0":           {sub(x, x), zero},
			"(x+y)-y = x":       {sub(add(x, y), y), lowest},
			"x y = y x":         {mul(x, y), mul(y, x)},
			"(x y) z = x (y z)": {mul(mul(x, y), z), mul(x, mul(y, z))},
			"x 1 = x":           {mul(x, one), lowest},
			"x (y+z) = x y+x z": {mul(x, add(y, z)), add(mul(x, y), mul(x, z))},
		} {
			if !same(both[0], both[1]) {
				t.Errorf("%s for %v, %v, %v: %v, %v", name, x, y, z, both[0], both[1])
			}
		}
		if integer(y.Num).Sign() != 0 && (!same(quo(mul(x, y), y), lowest) || !same(mul(y, quo(one, y)), one)) {
			t.Errorf("the quotient of %v and %v", x, y)
		}
	}
}

// R2: elements of a result may be appended to without an effect on another result.
func TestResultsAreSeparate(t *testing.T) {
	x, y := frac(ratio(7, 3)), frac(ratio(-5, 11))
	for i, o := range operations() {
		a, _ := o.call(x, y)
		b, _ := o.call(x, y)
		kept := api.Frac{Neg: b.Neg, Num: slices.Clone(b.Num), Den: slices.Clone(b.Den)}
		_, _ = append(a.Num, 99), append(a.Den, 99)
		spoil(a.Num)
		spoil(a.Den)
		if !same(b, kept) {
			t.Errorf("operation %d: results of two calls share memory", i)
		}
	}
}
