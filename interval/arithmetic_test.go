package interval_test

import (
	"math"
	"math/big"
	"math/rand"
	"slices"
	"testing"

	"drydock/api"
	"drydock/interval"
)

// operation is one of the functions of two arguments, and what the document asks of it.
type operation struct {
	name string
	call func(a, b api.Interval) (api.Interval, api.Errno)
	want func(a, b api.Interval) answer
}

func operations() []operation {
	return []operation{{"Add", interval.Add, sum}, {"Sub", interval.Sub, difference}, {"Mul", interval.Mul, product}, {"Scale", scale, multiple}}
}

// scale is Scale by the lower end of a.
func scale(a, b api.Interval) (api.Interval, api.Errno) {
	return interval.Scale(a.Lo, b)
}

func (o operation) check(t *testing.T, a, b api.Interval) {
	t.Helper()
	f := func(l []api.Interval) answer {
		c, err := o.call(l[0], l[1])
		return answer{is: c, err: err}
	}
	want := o.want(a, b)
	if got := ask(t, f, a, b); !got.equal(want) {
		t.Errorf("%s(%v, %v): got %v, want %v", o.name, a, b, got, want)
	}
}

// The following functions return the right answers of Add, Sub, Mul and Scale.

func sum(a, b api.Interval) answer {
	if !isValid(a, b) {
		return refused(api.ErrArg)
	}
	lo, hi := plus(value(a.Lo), value(b.Lo)), plus(value(a.Hi), value(b.Hi))
	if isLarge(lo, hi) {
		return refused(api.ErrSize)
	}
	return right(lo, hi)
}

func difference(a, b api.Interval) answer {
	if !isValid(a, b) {
		return refused(api.ErrArg)
	}
	lo, hi := minus(value(a.Lo), value(b.Hi)), minus(value(a.Hi), value(b.Lo))
	if isLarge(lo, hi) {
		return refused(api.ErrSize)
	}
	return right(lo, hi)
}

func product(a, b api.Interval) answer {
	if !isValid(a, b) {
		return refused(api.ErrArg)
	}
	return products(a, b)
}

func multiple(a, b api.Interval) answer {
	if !isFrac(a.Lo) || !isValid(b) {
		return refused(api.ErrArg)
	}
	return products(api.Interval{Lo: a.Lo, Hi: a.Lo}, b)
}

// products returns the right answer of Mul of valid intervals.
func products(a, b api.Interval) answer {
	list := []*big.Rat{times(value(a.Lo), value(b.Lo)), times(value(a.Lo), value(b.Hi)), times(value(a.Hi), value(b.Lo)), times(value(a.Hi), value(b.Hi))}
	if isLarge(list...) {
		return refused(api.ErrSize)
	}
	return right(least(list[0], list...), greatest(list[0], list...))
}

// P3.2: all pairs of intervals, with every error.
func TestOperations(t *testing.T) {
	for _, o := range operations() {
		pairs(func(a, b api.Interval) { o.check(t, a, b) })
	}
}

// P3.2
func TestRandomOperations(t *testing.T) {
	r := rand.New(rand.NewSource(3))
	for _, o := range operations() {
		for range 1500 {
			o.check(t, randomInterval(r, 1+r.Intn(5)), randomInterval(r, 1+r.Intn(5)))
		}
		for range 40 {
			a := randomInterval(r, full/2)
			o.check(t, a, randomInterval(r, full/2))
			o.check(t, a, a)
		}
	}
}

// P3.2: the document's examples and others, written out.
func TestOperationsByHand(t *testing.T) {
	whole := func(lo, hi int64) api.Interval { return span(ratio(lo, 1), ratio(hi, 1)) }
	unit, both, zero := whole(0, 1), whole(-1, 1), whole(0, 0)
	for _, c := range []struct {
		name       string
		call       func(a, b api.Interval) (api.Interval, api.Errno)
		a, b, want api.Interval
	}{
		{"Mul", interval.Mul, whole(-1, 2), whole(-3, 1), whole(-6, 3)},
		{"Sub", interval.Sub, unit, unit, both},
		{"Sub", interval.Sub, whole(2, 5), whole(1, 7), whole(-5, 4)},
		{"Add", interval.Add, whole(-2, 5), whole(1, 7), whole(-1, 12)},
		{"Mul", interval.Mul, whole(2, 3), whole(4, 5), whole(8, 15)},
		{"Mul", interval.Mul, whole(-3, -2), whole(4, 5), whole(-15, -8)},
		{"Mul", interval.Mul, whole(-3, -2), whole(-5, -4), whole(8, 15)},
		{"Mul", interval.Mul, whole(-3, 2), whole(4, 5), whole(-15, 10)},
		{"Mul", interval.Mul, whole(-3, 2), whole(-5, -4), whole(-10, 15)},
		{"Mul", interval.Mul, whole(-3, 2), whole(-5, 4), whole(-12, 15)},
		{"Mul", interval.Mul, whole(0, 2), whole(-5, 4), whole(-10, 8)},
		{"Mul", interval.Mul, whole(-2, 0), whole(-5, 0), whole(0, 10)},
		{"Mul", interval.Mul, zero, whole(-5, 4), zero},
		{"Mul", interval.Mul, both, zero, zero},
		{"Scale", scale, whole(-2, 9), whole(-1, 3), whole(-6, 2)},
		{"Scale", scale, whole(2, 9), whole(-1, 3), whole(-2, 6)},
		{"Scale", scale, zero, whole(-1, 3), zero},
		{"Scale", scale, lone(api.Frac{Neg: true, Num: api.Nat{0}, Den: api.Nat{9}}), whole(-1, 3), zero},
		{"Scale", scale, lone(api.Frac{Neg: true, Num: api.Nat{2}, Den: api.Nat{4}}), whole(-1, 3), span(ratio(-3, 2), ratio(1, 2))},
	} {
		if got, err := c.call(c.a, c.b); !same(got, c.want) || err != api.OK {
			t.Errorf("%s(%v, %v) = %v, %d, want %v", c.name, c.a, c.b, got, err, c.want)
		}
	}
}

// P3.2: the results are the least ones: their ends are reached.
func TestEndsAreReached(t *testing.T) {
	inner := func(a api.Interval) []*big.Rat {
		lo, hi := values(a)
		return []*big.Rat{lo, times(plus(lo, hi), ratio(1, 2)), plus(times(lo, ratio(1, 7)), times(hi, ratio(6, 7))), hi}
	}
	for _, c := range []struct {
		call  func(a, b api.Interval) (api.Interval, api.Errno)
		value func(x, y *big.Rat) *big.Rat
	}{{interval.Add, plus}, {interval.Sub, minus}, {interval.Mul, times}} {
		for _, a := range small() {
			for _, b := range small() {
				got, err := c.call(a, b)
				var list []*big.Rat
				for _, x := range inner(a) {
					for _, y := range inner(b) {
						list = append(list, c.value(x, y))
					}
				}
				if want := span(least(list[0], list...), greatest(list[0], list...)); err != api.OK || !same(got, want) {
					t.Errorf("%v, %v: got %v, %d, want %v", a, b, got, err, want)
				}
			}
		}
	}
}

// P3.2: ErrArg for each argument that is not valid comes before ErrSize.
func TestOperationErrors(t *testing.T) {
	top := span(whole(below(edge)), whole(below(edge)))
	for _, bad := range invalid() {
		for _, o := range operations()[:3] {
			o.check(t, bad, top)
			o.check(t, top, bad)
			if got, err := o.call(top, bad); !same(got, api.Interval{}) || err != api.ErrArg {
				t.Errorf("%s(%v, %v) = %v, %d", o.name, top, bad, got, err)
			}
			if got, err := o.call(bad, top); !same(got, api.Interval{}) || err != api.ErrArg {
				t.Errorf("%s(%v, %v) = %v, %d", o.name, bad, top, got, err)
			}
		}
		if got, err := interval.Scale(top.Lo, bad); !same(got, api.Interval{}) || err != api.ErrArg {
			t.Errorf("Scale(%v, %v) = %v, %d", top.Lo, bad, got, err)
		}
	}
	for _, x := range invalidFracs() {
		for _, a := range slices.Concat(small(), huge(), invalid()) {
			if got, err := interval.Scale(x, a); !same(got, api.Interval{}) || err != api.ErrArg {
				t.Errorf("Scale(%v, %v) = %v, %d", x, a, got, err)
			}
		}
	}
	// One end is large, and the other argument has ends in the wrong order that would not be.
	reversed := api.Interval{Lo: frac(ratio(1, 1)), Hi: frac(ratio(0, 1))}
	for _, o := range operations() {
		o.check(t, top, reversed)
		o.check(t, top, top)
	}
}

// P3.2: sums and differences with ends of exactly MaxFracLimbs limbs, and with one end of one limb more.
func TestSumsAtTheLimit(t *testing.T) {
	one, most := ratio(1, 1), whole(below(edge))
	tiny := quotient(big.NewInt(1), power(edge-1))
	for i, c := range []struct {
		a, b api.Interval // of Add; Sub takes minus b
		err  api.Errno
	}{
		{span(ratio(0, 1), minus(most, one)), span(ratio(0, 1), one), api.OK},
		{span(ratio(0, 1), most), span(ratio(0, 1), one), api.ErrSize}, // only the upper end
		{span(ratio(0, 1), most), span(ratio(-1, 1), ratio(0, 1)), api.OK},
		{span(negated(most), ratio(0, 1)), span(ratio(-1, 1), ratio(0, 1)), api.ErrSize}, // only the lower end
		{span(negated(most), most), span(ratio(-1, 1), ratio(-1, 1)), api.ErrSize},
		{span(negated(most), most), span(ratio(1, 1), ratio(1, 1)), api.ErrSize},
		{span(negated(most), most), span(ratio(0, 1), ratio(0, 1)), api.OK},
		{span(most, most), span(negated(most), negated(most)), api.OK},
		{span(negated(tiny), tiny), span(negated(tiny), tiny), api.OK},
		{span(negated(tiny), tiny), span(ratio(-1, 3), ratio(0, 1)), api.ErrSize}, // only the lower denominator
		{span(negated(tiny), tiny), span(ratio(0, 1), ratio(1, 3)), api.ErrSize},  // only the upper one
		{span(negated(tiny), tiny), span(ratio(-1, 1), ratio(1, 1)), api.OK},
	} {
		opposite := span(negated(value(c.b.Hi)), negated(value(c.b.Lo)))
		for turn := range 12 {
			add, sub := operations()[0], operations()[1]
			add.check(t, shape(c.a, turn), shape(c.b, turn))
			sub.check(t, shape(c.a, turn), shape(opposite, turn))
		}
		if got, err := interval.Add(c.a, c.b); err != c.err || err != api.OK && !same(got, api.Interval{}) {
			t.Errorf("Add, case %d: got error %d, want %d", i, err, c.err)
		}
		if got, err := interval.Sub(c.a, opposite); err != c.err || err != api.OK && !same(got, api.Interval{}) {
			t.Errorf("Sub, case %d: got error %d, want %d", i, err, c.err)
		}
	}
}

// flipped returns the numbers minus x for x in a.
func flipped(a api.Interval) api.Interval {
	lo, hi := values(a)
	return span(negated(hi), negated(lo))
}

// P3.2: products of exactly MaxFracLimbs limbs, and cases in which only one of the four is large, be it an end of the product or not.
func TestProductsAtTheLimit(t *testing.T) {
	tiny, half, long := quotient(big.NewInt(1), power(edge-1)), ratio(1, 2), whole(power(edge/2))
	for i, c := range []struct {
		a, b  api.Interval
		large int // how many of the four products are large
	}{
		{span(ratio(1, 1), long), span(ratio(1, 1), whole(power(edge/2-1))), 0},
		{span(ratio(1, 1), long), span(ratio(1, 1), long), 1},  // the greatest one
		{span(ratio(-1, 1), long), span(ratio(1, 1), long), 1}, // the greatest one
		{span(ratio(0, 1), long), span(ratio(0, 1), long), 1},
		{span(tiny, ratio(1, 1)), span(half, ratio(3, 1)), 1},   // the least one
		{span(ratio(-1, 1), tiny), span(ratio(-1, 1), half), 1}, // neither the least nor the greatest one
		{span(ratio(-9, 1), tiny), span(half, ratio(1, 1)), 1},
		{span(tiny, tiny), span(half, half), 4},
		{span(tiny, tiny), span(half, ratio(1, 1)), 2},
		{span(tiny, tiny), span(ratio(1, 1), ratio(2, 1)), 0},
		{span(whole(below(edge)), whole(below(edge))), span(ratio(-1, 1), ratio(1, 1)), 0},
		{span(whole(below(edge)), whole(below(edge))), span(ratio(-1, 1), ratio(2, 1)), 2},
		{span(ratio(0, 1), whole(below(edge))), span(quotient(big.NewInt(1), below(edge)), ratio(1, 1)), 0}, // 1 is in lowest terms
	} {
		for _, a := range []api.Interval{c.a, flipped(c.a)} {
			for _, b := range []api.Interval{c.b, flipped(c.b)} {
				checkLarge(t, i, a, b, c.large)
				checkLarge(t, i, b, a, c.large)
			}
		}
	}
}

// checkLarge checks Mul of two intervals with a number of large products.
func checkLarge(t *testing.T, i int, a, b api.Interval, large int) {
	t.Helper()
	count := 0
	for _, x := range []api.Frac{a.Lo, a.Hi} {
		for _, y := range []api.Frac{b.Lo, b.Hi} {
			if isLarge(times(value(x), value(y))) {
				count++
			}
		}
	}
	if count != large {
		t.Fatalf("case %d: the test has %d large products, not %d", i, count, large)
	}
	operations()[2].check(t, a, b)
	operations()[2].check(t, shape(a, 5), shape(b, 7))
	if _, err := interval.Mul(a, b); (err == api.ErrSize) != (large > 0) {
		t.Errorf("case %d: Mul(%v, %v): error %d", i, a, b, err)
	}
}

// P3.2: Scale with products of exactly MaxFracLimbs limbs, and with one large product.
func TestScaleAtTheLimit(t *testing.T) {
	tiny, long := quotient(big.NewInt(1), power(edge-1)), whole(power(edge/2))
	for i, c := range []struct {
		x   *big.Rat
		a   api.Interval
		err api.Errno
	}{
		{long, span(ratio(1, 1), whole(power(edge/2-1))), api.OK},
		{long, span(ratio(1, 1), long), api.ErrSize},
		{long, span(negated(long), ratio(1, 1)), api.ErrSize},
		{ratio(1, 2), span(tiny, ratio(1, 1)), api.ErrSize},
		{ratio(1, 2), span(negated(tiny), ratio(1, 1)), api.ErrSize},
		{ratio(1, 2), span(ratio(-1, 1), tiny), api.ErrSize},
		{ratio(2, 1), span(negated(tiny), tiny), api.OK},
		{ratio(0, 1), span(negated(whole(below(edge))), tiny), api.OK},
		{whole(below(edge)), span(ratio(0, 1), ratio(1, 1)), api.OK},
		{whole(below(edge)), span(ratio(0, 1), quotient(big.NewInt(1), below(edge))), api.OK},
		{whole(below(edge)), span(ratio(-2, 1), ratio(1, 1)), api.ErrSize},
	} {
		for _, x := range []*big.Rat{c.x, negated(c.x)} {
			for _, y := range forms(frac(x)) {
				operations()[3].check(t, lone(y), c.a)
				if _, err := interval.Scale(y, c.a); err != c.err {
					t.Errorf("case %d: Scale(%v, %v): error %d, want %d", i, y, c.a, err, c.err)
				}
			}
		}
	}
}

func width(l []api.Interval) answer {
	x, err := interval.Width(l[0])
	return answer{is: lone(x), err: err}
}

// checkWidth compares Width with the result or the error that the document asks for.
func checkWidth(t *testing.T, a api.Interval) {
	t.Helper()
	if !isValid(a) {
		expect(t, width, refused(api.ErrArg), a)
		return
	}
	size := minus(value(a.Hi), value(a.Lo))
	if isLarge(size) {
		expect(t, width, refused(api.ErrSize), a)
		return
	}
	expect(t, width, answer{is: lone(frac(size))}, a)
}

// P3.2
func TestWidth(t *testing.T) {
	for _, a := range slices.Concat(small(), huge(), invalid()) {
		for turn := range 12 {
			checkWidth(t, shape(a, turn))
		}
	}
	r := rand.New(rand.NewSource(4))
	for range 500 {
		checkWidth(t, randomInterval(r, 1+r.Intn(full)))
	}
	most, tiny := whole(below(edge)), quotient(big.NewInt(1), power(edge-1))
	for i, c := range []struct {
		a   api.Interval
		err api.Errno
	}{
		{span(ratio(0, 1), most), api.OK}, {span(ratio(-1, 1), most), api.ErrSize}, {span(ratio(-1, 1), minus(most, ratio(1, 1))), api.OK},
		{span(negated(tiny), tiny), api.OK}, {span(negated(tiny), ratio(1, 3)), api.ErrSize}, {span(ratio(-1, 1), tiny), api.OK},
		{span(most, most), api.OK}, {span(ratio(1, 1), ratio(0, 1)), api.ErrArg}, {span(most, negated(most)), api.ErrArg},
	} {
		checkWidth(t, c.a)
		if x, err := interval.Width(c.a); err != c.err || err != api.OK && !identical(x, api.Frac{}) {
			t.Errorf("case %d: Width(%v) = %v, %d, want error %d", i, c.a, x, err, c.err)
		}
	}
	half := api.Interval{Lo: frac(ratio(1, 2)), Hi: api.Frac{Num: api.Nat{2}, Den: api.Nat{4}}}
	if x, err := interval.Width(half); !identical(x, api.Frac{Den: api.Nat{1}}) || err != api.OK {
		t.Errorf("Width(%v) = %v, %d", half, x, err)
	}
	if x, err := interval.Width(span(ratio(-1, 3), ratio(1, 2))); !identical(x, frac(ratio(5, 6))) || err != api.OK {
		t.Errorf("Width of the interval from -1/3 to 1/2 = %v, %d", x, err)
	}
}

// floor returns the greatest multiple of 2^-bits that is not greater than v.
func floor(v *big.Rat, bits int) *big.Rat {
	count := new(big.Int).Mul(v.Num(), power(bits))
	// Div rounds down here, because the denominator is positive.
	return quotient(count.Div(count, v.Denom()), power(bits))
}

// checkOutward compares Outward with the result or the error that the document asks for.
func checkOutward(t *testing.T, a api.Interval, bits int) {
	t.Helper()
	f := func(l []api.Interval) answer {
		b, err := interval.Outward(l[0], bits)
		return answer{is: b, err: err}
	}
	want := answer{}
	switch {
	case !isValid(a):
		want.err = api.ErrArg
	case bits < 0 || bits >= past:
		want.err = api.ErrRange
	default:
		lo, hi := floor(value(a.Lo), bits), negated(floor(negated(value(a.Hi)), bits))
		want.err = api.ErrSize
		if !isLarge(lo, hi) {
			want = right(lo, hi)
		}
	}
	if got := ask(t, f, a); !got.equal(want) {
		t.Errorf("Outward(%v, %d): got %v, want %v", a, bits, got, want)
	}
}

// P3.3
func TestOutward(t *testing.T) {
	for turn, a := range slices.Concat(small(), huge(), invalid()) {
		for _, bits := range []int{math.MinInt64, -1, 0, 1, 2, 31, 32, 64, past - 1, past, math.MaxInt64} {
			checkOutward(t, a, bits)
			checkOutward(t, shape(a, turn+bits&7), bits)
		}
	}
	r := rand.New(rand.NewSource(5))
	for range 1000 {
		checkOutward(t, randomInterval(r, 1+r.Intn(4)), r.Intn(past))
	}
	for _, c := range []struct {
		a    api.Interval
		bits int
		want api.Interval
		err  api.Errno
	}{
		{span(ratio(1, 3), ratio(1, 3)), 2, span(ratio(1, 4), ratio(1, 2)), api.OK},
		{span(ratio(-1, 3), ratio(-1, 3)), 2, span(ratio(-1, 2), ratio(-1, 4)), api.OK},
		{span(ratio(-1, 3), ratio(5, 4)), 0, span(ratio(-1, 1), ratio(2, 1)), api.OK},
		{span(ratio(-7, 4), ratio(3, 4)), 2, span(ratio(-7, 4), ratio(3, 4)), api.OK},
		{api.Interval{Lo: api.Frac{Neg: true, Den: api.Nat{3}}, Hi: api.Frac{Num: api.Nat{4}, Den: api.Nat{8}}}, 1, span(ratio(0, 1), ratio(1, 2)), api.OK},
		{span(ratio(1, 3), ratio(2, 3)), -1, api.Interval{}, api.ErrRange},
		{span(ratio(1, 3), ratio(2, 3)), past, api.Interval{}, api.ErrRange},
		{span(ratio(2, 3), ratio(1, 3)), past, api.Interval{}, api.ErrArg}, // ErrArg comes before ErrRange
		{span(ratio(2, 3), ratio(1, 3)), 3, api.Interval{}, api.ErrArg},
		{api.Interval{}, -1, api.Interval{}, api.ErrArg},
	} {
		if got, err := interval.Outward(c.a, c.bits); !same(got, c.want) || err != c.err {
			t.Errorf("Outward(%v, %d) = %v, %d, want %v, %d", c.a, c.bits, got, err, c.want, c.err)
		}
	}
}

// P3.3: one end that is large, or none.
func TestOutwardAtTheLimit(t *testing.T) {
	// Only one of the two multiples of 1/4 next to each of these numbers is even, and small enough for that reason.
	floorFits, ceilFits := times(minus(whole(below(edge)), ratio(1, 1)), ratio(1, 3)), times(minus(whole(below(edge)), ratio(2, 1)), ratio(1, 3))
	most := whole(below(edge))
	for i, c := range []struct {
		a    api.Interval
		bits int
		err  api.Errno
	}{
		{span(ratio(0, 1), floorFits), 2, api.ErrSize}, // only Ceil of Hi
		{span(ratio(0, 1), ceilFits), 2, api.OK},
		{span(floorFits, most), 2, api.OK},
		{span(ceilFits, most), 2, api.ErrSize},      // only Floor of Lo
		{span(ceilFits, floorFits), 2, api.ErrSize}, // both
		{span(floorFits, ceilFits), 2, api.ErrArg},  // in the wrong order
		{span(negated(floorFits), ratio(0, 1)), 2, api.ErrSize},
		{span(negated(ceilFits), ratio(0, 1)), 2, api.OK},
		{span(negated(most), negated(floorFits)), 2, api.OK},
		{span(negated(most), negated(ceilFits)), 2, api.ErrSize},
		{span(negated(most), most), past - 1, api.OK},
		{span(quotient(big.NewInt(1), below(edge)), quotient(below(edge), power(edge-1))), past - 1, api.OK},
	} {
		checkOutward(t, c.a, c.bits)
		if got, err := interval.Outward(c.a, c.bits); err != c.err || err != api.OK && !same(got, api.Interval{}) {
			t.Errorf("case %d: Outward(%v, %d) = %v, %d, want error %d", i, c.a, c.bits, got, err, c.err)
		}
	}
}

// P3.5: Outward(a, bits) contains a, and is wider by less than 2 times 2^-bits.
func TestOutwardLaws(t *testing.T) {
	r := rand.New(rand.NewSource(6))
	for range 2000 {
		a, bits := randomInterval(r, 1+r.Intn(6)), r.Intn(past)
		b, err := interval.Outward(a, bits)
		if err != api.OK || !interval.Inside(a, b) {
			t.Errorf("Outward(%v, %d) = %v, %d", a, bits, b, err)
			continue
		}
		before, _ := interval.Width(a)
		after, _ := interval.Width(b)
		if minus(value(after), value(before)).Cmp(quotient(big.NewInt(2), power(bits))) >= 0 {
			t.Errorf("Outward(%v, %d) = %v is too wide", a, bits, b)
		}
	}
}

// within returns an interval inside c, sometimes with the same ends.
func within(r *rand.Rand, c api.Interval) api.Interval {
	lo, hi := values(c)
	at := func() *big.Rat { return plus(lo, times(minus(hi, lo), ratio(int64(r.Intn(6)), 5))) }
	x, y := at(), at()
	return span(least(x, y), greatest(x, y))
}

// P3.5: Inclusion.
func TestInclusion(t *testing.T) {
	r := rand.New(rand.NewSource(7))
	for range 2000 {
		c, d := randomInterval(r, 3), randomInterval(r, 3)
		a, b := within(r, c), within(r, d)
		if !interval.Inside(a, c) || !interval.Inside(b, d) {
			t.Fatalf("%v in %v, %v in %v", a, c, b, d)
		}
		for _, o := range operations()[:3] {
			inner, err := o.call(a, b)
			outer, other := o.call(c, d)
			if err != api.OK || other != api.OK || !interval.Inside(inner, outer) {
				t.Errorf("%s(%v, %v) = %v, %d is not inside %s(%v, %v) = %v, %d", o.name, a, b, inner, err, o.name, c, d, outer, other)
			}
		}
		x := form(frac(random(r, 3)), r.Intn(20))
		inner, err := interval.Scale(x, b)
		outer, other := interval.Scale(x, d)
		if err != api.OK || other != api.OK || !interval.Inside(inner, outer) {
			t.Errorf("Scale(%v, %v) = %v, %d is not inside that of %v: %v, %d", x, b, inner, err, d, outer, other)
		}
		points, _ := interval.Point(a.Lo)
		scaled, err := interval.Scale(a.Lo, b)
		if multiplied, other := interval.Mul(points, b); !same(scaled, multiplied) || err != other {
			t.Errorf("Scale(%v, %v) = %v, and Mul %v", a.Lo, b, scaled, multiplied)
		}
	}
}
