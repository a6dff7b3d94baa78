package expo_test

import (
	"math"
	"math/big"
	"slices"
	"testing"

	"drydock/api"
	"drydock/expo"
)

// refusal is a call that is refused, or not.
type refusal struct {
	x       api.Frac
	n, bits int
	err     api.Errno
}

// checkRefusal checks the error of all four functions, and that nothing else is returned with it. Exp and Terms take no n.
func checkRefusal(t *testing.T, c refusal) {
	t.Helper()
	withoutIndex := errorOf(refusal{x: c.x, bits: c.bits})
	for _, f := range functions() {
		want := c.err
		if f.name == "Exp" {
			want = withoutIndex
		}
		got, err := f.call(c.x, c.n, c.bits)
		if err != want || err != api.OK && !same(got, api.Interval{}) || err == api.OK && len(got.Hi.Den) == 0 {
			t.Errorf("%s(%v, %d, %d) = %v, %d, want error %d", f.name, c.x, c.n, c.bits, got, err, want)
		}
	}
	if got, err := expo.Terms(c.x, c.bits); err != withoutIndex || err != api.OK && got != 0 {
		t.Errorf("Terms(%v, %d) = %d, %d, want error %d", c.x, c.bits, got, err, withoutIndex)
	}
}

// errorOf returns the first error that the document names, computed apart from the program.
func errorOf(c refusal) api.Errno {
	const edge = 32 * api.MaxFracLimbs
	num, den := integer(c.x.Num), integer(c.x.Den)
	if den.Sign() == 0 || num.BitLen() > edge || den.BitLen() > edge {
		return api.ErrArg
	}
	v := value(c.x)
	if v.Sign() < 0 || v.Cmp(ratio(64, 1)) > 0 || c.bits < 1 || c.bits > maxBits || c.n < 0 || c.n > maxIndex {
		return api.ErrRange
	}
	if v.Num().BitLen() > 64 || v.Denom().BitLen() > 64 {
		return api.ErrSize
	}
	return api.OK
}

// P4.3: each error alone, written out.
func TestErrorsByHand(t *testing.T) {
	one, tiny := frac(ratio(1, 1)), quotient(big.NewInt(1), below(64))
	above := func(den *big.Int) api.Frac { return frac(plus(ratio(64, 1), quotient(big.NewInt(1), den))) }
	for _, c := range []refusal{
		{one, 0, 0, api.ErrRange}, {one, 0, 1, api.OK}, {one, 0, 64, api.OK}, {one, 0, 65, api.ErrRange}, {one, 0, -1, api.ErrRange},
		{one, 0, math.MinInt, api.ErrRange}, {one, 0, math.MaxInt, api.ErrRange},
		{one, -1, 9, api.ErrRange}, {one, 0, 9, api.OK}, {one, 256, 9, api.OK}, {one, 257, 9, api.ErrRange},
		{one, math.MinInt, 9, api.ErrRange}, {one, math.MaxInt, 9, api.ErrRange},
		{frac(ratio(64, 1)), 2, 9, api.OK}, {api.Frac{Num: api.Nat{128, 0}, Den: api.Nat{2, 0}}, 2, 9, api.OK},
		{above(power(57)), 2, 9, api.ErrRange}, {above(big.NewInt(1)), 2, 9, api.ErrRange}, {frac(ratio(math.MaxInt64, 1)), 2, 9, api.ErrRange},
		{frac(ratio(-1, 1)), 2, 9, api.ErrRange}, {frac(new(big.Rat).Neg(tiny)), 2, 9, api.ErrRange}, {frac(ratio(-65, 1)), 2, 9, api.ErrRange},
		{frac(tiny), 2, 9, api.OK}, {frac(unit(64)), 2, 9, api.ErrSize}, {frac(unit(4000)), 2, 9, api.ErrSize},
		{frac(quotient(power(63), below(64))), 2, 9, api.OK},
		{frac(quotient(power(64), below(64))), 2, 9, api.ErrSize},              // Num has 3 limbs, Den has 2
		{frac(quotient(below(64), power(64))), 2, 9, api.ErrSize},              // Den has 3 limbs, Num has 2
		{frac(quotient(below(65), below(63))), 2, 9, api.ErrSize},              // Num has 3 limbs, Den has 2
		{frac(quotient(below(95), below(96))), 2, 9, api.ErrSize},              // both have 3 limbs
		{frac(quotient(below(64), power(63))), 2, 9, api.OK},                   // both have 2 limbs
		{api.Frac{Num: limbs(power(70)), Den: limbs(power(71))}, 2, 9, api.OK}, // 3 limbs, but not in lowest terms
		{api.Frac{Num: append(limbs(below(64)), 0, 0), Den: api.Nat{0, 1 << 31, 0}}, 2, 9, api.OK},
	} {
		checkRefusal(t, c)
		if err := errorOf(c); err != c.err {
			t.Errorf("case %v: the test expects error %d", c, err)
		}
	}
}

// P4.3: all cases of one argument with all cases of the others, so that several errors apply and the first one counts.
func TestErrorOrder(t *testing.T) {
	list := slices.Concat(invalid(), []api.Frac{
		frac(ratio(1, 3)), frac(ratio(0, 1)), {Neg: true, Den: api.Nat{5}}, frac(ratio(64, 1)), frac(ratio(-1, 3)), frac(ratio(65, 1)),
		frac(unit(64)),                                        // large
		frac(new(big.Rat).Neg(unit(64))),                      // large and less than 0
		frac(quotient(below(66), power(58))),                  // large and greater than 64
		frac(plus(ratio(64, 1), unit(58))),                    // large and a little greater than 64
		frac(minus(ratio(64, 1), unit(100))),                  // large and a little less than 64
		frac(new(big.Rat).Neg(quotient(below(66), below(9)))), // large and much less than 0
		{Neg: true, Num: limbs(power(99)), Den: limbs(power(99))},
		{Num: limbs(power(107)), Den: limbs(power(100))},
	})
	for _, x := range list {
		for _, n := range []int{0, 5, maxIndex, -1, maxIndex + 1, math.MinInt, math.MaxInt} {
			for _, bits := range []int{1, maxBits, 0, -1, maxBits + 1, math.MinInt, math.MaxInt} {
				c := refusal{x: x, n: n, bits: bits}
				c.err = errorOf(c)
				checkRefusal(t, c)
			}
		}
	}
	for _, x := range invalid() {
		checkRefusal(t, refusal{x, -1, 0, api.ErrArg})
	}
	large := frac(unit(64))
	for _, c := range []refusal{{large, -1, 9, api.ErrRange}, {large, 257, 9, api.ErrRange}, {large, 3, 0, api.ErrRange}, {large, 3, 65, api.ErrRange}, {large, 3, 9, api.ErrSize}} {
		checkRefusal(t, c)
	}
}

// lend returns a copy of x that lies within longer arrays, and those.
func lend(x api.Frac) (api.Frac, []api.Nat) {
	num, den := slices.Concat(api.Nat{7, 8}, x.Num, api.Nat{9, 10, 11}), slices.Concat(api.Nat{7, 8}, x.Den, api.Nat{9, 10, 11})
	return api.Frac{Neg: x.Neg, Num: num[2 : 2+len(x.Num)], Den: den[2 : 2+len(x.Den)]}, []api.Nat{num, den}
}

// spoil changes a part of a result and the spare memory behind it.
func spoil(part api.Nat) {
	part = part[:cap(part)]
	for i := range part {
		part[i] ^= 0x5a5a5a5a
	}
}

// Rules: arguments are neither changed nor kept, the parts of a result share no memory, and the same arguments give the same result.
func TestRules(t *testing.T) {
	for _, v := range []*big.Rat{ratio(0, 1), ratio(1, 1), ratio(5, 3), ratio(64, 1), quotient(below(64), power(60))} {
		for _, f := range functions() {
			for _, form := range forms(v) {
				x, arrays := lend(form)
				kept := []api.Nat{slices.Clone(arrays[0]), slices.Clone(arrays[1])}
				first, _ := f.call(x, 1, 7)
				second, _ := f.call(x, 1, 7)
				list := []api.Nat{first.Lo.Num, first.Lo.Den, first.Hi.Num, first.Hi.Den}
				for i, part := range list {
					spoil(part)
					for k, other := range []api.Nat{second.Lo.Num, second.Lo.Den, second.Hi.Num, second.Hi.Den} {
						if k > i && !slices.Equal(list[k], other) {
							t.Errorf("%s(%v): parts of the result share memory, or another result for the same arguments", f.name, form)
						}
					}
				}
				expo.Terms(x, 7)
				if !slices.Equal(arrays[0], kept[0]) || !slices.Equal(arrays[1], kept[1]) {
					t.Errorf("%s(%v): an argument was changed", f.name, form)
				}
				if third, _ := f.call(x, 1, 7); !same(third, second) {
					t.Errorf("%s(%v): another result for the same arguments", f.name, form)
				}
			}
		}
	}
}
