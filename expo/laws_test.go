package expo_test

import (
	"math/big"
	"testing"

	"drydock/api"
	"drydock/expo"
)

// ask returns the ends of an enclosure.
func (f function) ask(t *testing.T, x *big.Rat, n, bits int) (lo, hi *big.Rat) {
	t.Helper()
	a, err := f.call(frac(x), n, bits)
	if err != api.OK {
		t.Fatalf("%s(%v, %d, %d): error %d", f.name, x, n, bits, err)
	}
	return bounds(a)
}

// meet reports whether two intervals have a number in common.
func meet(lo, hi, low, high *big.Rat) bool {
	return lo.Cmp(high) <= 0 && low.Cmp(hi) <= 0
}

// P4.4: Exp contains 1 - t(x, 0), so it is 1 minus Tail, and it meets Poisson of 0.
func TestExpAndTail(t *testing.T) {
	one := ratio(1, 1)
	for _, x := range append(means(), ratio(0, 1)) {
		for _, bits := range someBits() {
			lo, hi := functions()[0].ask(t, x, 0, bits)
			low, high := functions()[1].ask(t, x, 0, bits)
			if !meet(lo, hi, low, high) {
				t.Errorf("x = %v, %d digits: Exp and Poisson do not meet", x, bits)
			}
			low, high = functions()[2].ask(t, x, 0, bits)
			if plus(lo, high).Cmp(one) != 0 || plus(hi, low).Cmp(one) != 0 {
				t.Errorf("x = %v, %d digits: Exp goes from %v to %v, Tail from %v to %v", x, bits, lo, hi, low, high)
			}
		}
	}
}

// P4.4: more bits give an interval inside the one with fewer bits.
func TestMoreBits(t *testing.T) {
	for _, f := range functions() {
		for _, x := range append(means(), ratio(0, 1)) {
			for _, n := range []int{0, 1, 9, 70} {
				lo, hi := f.ask(t, x, n, 1)
				for _, bits := range someBits()[1:] {
					low, high := f.ask(t, x, n, bits)
					if low.Cmp(lo) < 0 || high.Cmp(hi) > 0 {
						t.Errorf("%s(%v, %d, %d) is not inside the interval with fewer digits", f.name, x, n, bits)
					}
					lo, hi = low, high
				}
			}
		}
	}
}

// P4.4: the sum of the weights up to n and of the tail behind it is 1.
func TestSumOfWeights(t *testing.T) {
	for _, x := range []*big.Rat{ratio(0, 1), unit(63), ratio(1, 3), ratio(1, 1), ratio(31, 10), ratio(20, 1), ratio(64, 1)} {
		for _, bits := range []int{1, 4, 16, maxBits} {
			lo, hi := ratio(0, 1), ratio(0, 1)
			for n := range 90 {
				low, high := functions()[1].ask(t, x, n, bits)
				lo, hi = plus(lo, low), plus(hi, high)
				if n > 5 && n%7 != 0 {
					continue
				}
				low, high = functions()[2].ask(t, x, n, bits)
				if one := ratio(1, 1); plus(lo, low).Cmp(one) > 0 || plus(hi, high).Cmp(one) < 0 {
					t.Errorf("x = %v, %d digits: the weights up to %d and the tail do not contain the sum 1", x, bits, n)
				}
			}
		}
	}
}

// P4.4: the exponential of a sum meets the product of the exponentials.
func TestExpOfSum(t *testing.T) {
	exp := functions()[0]
	list := []*big.Rat{ratio(0, 1), unit(50), ratio(1, 100), ratio(1, 3), ratio(1, 1), ratio(5, 2), ratio(97, 3), ratio(30, 1)}
	for _, x := range list {
		for _, y := range list {
			if plus(x, y).Cmp(ratio(64, 1)) > 0 {
				continue
			}
			for _, bits := range []int{1, 3, 20, maxBits} {
				lo, hi := exp.ask(t, plus(x, y), 0, bits)
				low, high := exp.ask(t, x, 0, bits)
				lower, higher := exp.ask(t, y, 0, bits)
				if !meet(lo, hi, times(low, lower), times(high, higher)) {
					t.Errorf("Exp of %v + %v with %d digits does not meet the product", x, y, bits)
				}
			}
		}
	}
}

// P4.4: Tail decreases with n and increases with x; Exp decreases with x.
func TestTailOrder(t *testing.T) {
	rising := []*big.Rat{ratio(0, 1), unit(63), unit(60), unit(33), ratio(1, 100), ratio(1, 3), ratio(1, 2), ratio(1, 1), ratio(2, 1), ratio(7, 1), ratio(20, 1), ratio(97, 3), ratio(50, 1), ratio(64, 1)}
	exp, tail := functions()[0], functions()[2]
	for i, x := range rising {
		for _, bits := range []int{1, 8, maxBits} {
			last, _ := tail.ask(t, x, 0, bits)
			for n := range 12 {
				low, _ := tail.ask(t, x, n*n, bits)
				if low.Cmp(last) > 0 {
					t.Errorf("Tail(%v, %d, %d) is greater than one before it", x, n*n, bits)
				}
				last = low
				if i == 0 {
					continue
				}
				if less, _ := tail.ask(t, rising[i-1], n*n, bits); less.Cmp(low) > 0 {
					t.Errorf("Tail(%v, %d, %d) is less than for %v", x, n*n, bits, rising[i-1])
				}
			}
			if i > 0 {
				low, _ := exp.ask(t, x, 0, bits)
				if more, _ := exp.ask(t, rising[i-1], 0, bits); more.Cmp(low) < 0 {
					t.Errorf("Exp(%v, %d) is greater than for %v", x, bits, rising[i-1])
				}
			}
		}
	}
}

// P4.4: Terms grows with x and with bits, because the tail does with x and not with n.
func TestTermsOrder(t *testing.T) {
	last := 0
	for _, x := range []*big.Rat{ratio(0, 1), unit(33), ratio(1, 3), ratio(1, 1), ratio(7, 1), ratio(50, 1), ratio(64, 1)} {
		for bits := 1; bits <= maxBits; bits += 9 {
			n, err := expo.Terms(frac(x), bits)
			if more, _ := expo.Terms(frac(x), min(bits+5, maxBits)); err != api.OK || more < n {
				t.Errorf("Terms(%v, %d) = %d, %d, but %d with more digits", x, bits, n, err, more)
			}
		}
		n, _ := expo.Terms(frac(x), 30)
		if n < last {
			t.Errorf("Terms(%v, 30) = %d, less than for a lesser number", x, n)
		}
		last = n
	}
}
