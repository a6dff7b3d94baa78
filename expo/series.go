package expo

import (
	"drydock/api"
	"drydock/fraction"
	"drydock/interval"
)

const limbBits = 32 // binary digits of a limb

// enclose returns the interval between two neighbouring multiples of 2^-bits that contains the number of a kind; for x = 0, the number itself.
func enclose(k kind, x api.Frac, n, bits int) (api.Interval, api.Errno) {
	x, err := checked(x, n, bits)
	if err != api.OK {
		return api.Interval{}, err
	}
	// For x above 0 the number is no fraction, so that it is not equal to a multiple, and with enough limbs it is told from the nearest one.
	for limbs := bits/limbBits + 2; ; limbs *= 2 {
		a, err := interval.Outward(share(k, x, n, limbs), bits)
		if err != api.OK || isNarrow(a, bits) {
			return a, err
		}
	}
}

// isNarrow reports whether a is at most 2^-bits wide.
func isNarrow(a api.Interval, bits int) bool {
	width, _ := interval.Width(a)
	return atMost(width, api.Frac{Num: api.Nat{1}, Den: power(bits)})
}

// share returns an interval that contains the number of a kind. The terms of the series are counted in units of 2^(-32 limbs), and enclosed by whole numbers of units.
//
// All terms are positive and are added, so that nothing cancels: the quotient is as exact as the sums.
func share(k kind, x api.Frac, n, limbs int) api.Interval {
	chosen, all := point(whole(0)), point(whole(0))
	term, ratio := point(api.Frac{Num: power(limbBits * limbs), Den: api.Nat{1}}), x
	for i := 0; !isNegligible(term, ratio); i++ {
		if k.includes(i, n) {
			chosen = plus(chosen, term)
		}
		all = plus(all, term)
		ratio, _ = fraction.Quo(x, whole(i+1))
		term = next(term, ratio)
	}
	// Each of the terms that are left is at most half of the one before it, so all of them are at most twice the first one. Any part of them may belong to the number.
	rest := plus(term, term)
	rest.Lo = whole(0)
	return quotient(plus(chosen, rest), plus(all, rest))
}

// includes reports whether the term i of the series is one of those that make up a number.
func (k kind) includes(i, n int) bool {
	switch k {
	case exponential:
		return i == 0
	case weight:
		return i == n
	}
	return i > n
}

// isNegligible reports whether a term is at most one unit, and its ratio to the one before it, with all ratios behind it, at most 1/2.
func isNegligible(term api.Interval, ratio api.Frac) bool {
	return atMost(term.Hi, whole(1)) && atMost(ratio, api.Frac{Num: api.Nat{1}, Den: api.Nat{2}})
}

// The following functions have no error to pass on while the numbers are not large, which is so up to more than a hundred limbs. From a large number they make intervals that are not valid, and Outward refuses these.

// next returns the term that has a ratio to the given one.
func next(term api.Interval, ratio api.Frac) api.Interval {
	term, _ = interval.Scale(ratio, term)
	term, _ = interval.Outward(term, 0)
	return term
}

// plus returns the sum of a and b.
func plus(a, b api.Interval) api.Interval {
	out, _ := interval.Add(a, b)
	return out
}

// quotient returns the interval of the quotients of the numbers of a and b, which are not negative and, in b, not 0.
func quotient(a, b api.Interval) api.Interval {
	lo, _ := fraction.Quo(a.Lo, b.Hi)
	hi, _ := fraction.Quo(a.Hi, b.Lo)
	return api.Interval{Lo: lo, Hi: hi}
}

// point returns the interval that contains x only.
func point(x api.Frac) api.Interval {
	out, _ := interval.Point(x)
	return out
}

// atMost reports whether x is at most y.
func atMost(x, y api.Frac) bool {
	order, _ := fraction.Cmp(x, y)
	return order <= 0
}

// whole returns the number v.
func whole(v int) api.Frac {
	out, _ := fraction.Make(int64(v), 1)
	return out
}

// isZero reports whether x, which is in lowest terms, is 0.
func isZero(x api.Frac) bool {
	return len(x.Num) == 0
}

// power returns 2^n.
func power(n int) api.Nat {
	out := make(api.Nat, n/limbBits+1)
	out[n/limbBits] = 1 << (n % limbBits)
	return out
}
