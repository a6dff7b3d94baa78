package fraction

import (
	"drydock/api"
	"drydock/natural"
)

// Add returns the sum of x and y.
func Add(x, y api.Frac) (api.Frac, api.Errno) {
	if !Valid(x) || !Valid(y) {
		return api.Frac{}, api.ErrArg
	}
	a, b := numerators(x, y)
	den := commonDenominator(x, y)
	if x.Neg == y.Neg {
		return lowest(x.Neg, plus(a, b), den)
	}
	if natural.Cmp(a, b) >= 0 {
		return lowest(x.Neg, minus(a, b), den)
	}
	return lowest(y.Neg, minus(b, a), den)
}

// Sub returns the difference of x and y.
func Sub(x, y api.Frac) (api.Frac, api.Errno) {
	y.Neg = !y.Neg
	return Add(x, y)
}

// Mul returns the product of x and y.
func Mul(x, y api.Frac) (api.Frac, api.Errno) {
	if !Valid(x) || !Valid(y) {
		return api.Frac{}, api.ErrArg
	}
	return lowest(x.Neg != y.Neg, times(x.Num, y.Num), times(x.Den, y.Den))
}

// Quo returns the quotient of x and y.
func Quo(x, y api.Frac) (api.Frac, api.Errno) {
	if !Valid(x) || !Valid(y) {
		return api.Frac{}, api.ErrArg
	}
	if isZero(y.Num) {
		return api.Frac{}, api.ErrZero
	}
	return lowest(x.Neg != y.Neg, times(x.Num, y.Den), times(x.Den, y.Num))
}

// Sum returns the sum of the elements of l, added from the first to the last.
func Sum(l ...api.Frac) (api.Frac, api.Errno) {
	total, err := Make(0, 1)
	for _, x := range l {
		total, err = Add(total, x)
		if err != api.OK {
			return api.Frac{}, err
		}
	}
	return total, err
}

// numerators returns the numerators of x and y over commonDenominator, without their signs.
func numerators(x, y api.Frac) (api.Nat, api.Nat) {
	if sameDenominator(x, y) {
		return x.Num, y.Num
	}
	return times(x.Num, y.Den), times(y.Num, x.Den)
}

// commonDenominator returns a denominator over which x and y can be written.
func commonDenominator(x, y api.Frac) api.Nat {
	if sameDenominator(x, y) {
		return x.Den
	}
	return times(x.Den, y.Den)
}

func sameDenominator(x, y api.Frac) bool {
	return natural.Cmp(x.Den, y.Den) == 0
}

// The following functions have no error to pass on: the parts of valid fractions are so short that no number computed from them is large by the measure of natural, and what Parse read is only shifted down.

// plus returns the sum of a and b.
func plus(a, b api.Nat) api.Nat {
	out, _ := natural.Add(a, b)
	return out
}

// minus returns the difference of a and b, which is not greater than a.
func minus(a, b api.Nat) api.Nat {
	out, _ := natural.Sub(a, b)
	return out
}

// times returns the product of a and b.
func times(a, b api.Nat) api.Nat {
	out, _ := natural.Mul(a, b)
	return out
}

// shift returns a times 2^n, rounded down.
func shift(a api.Nat, n int) api.Nat {
	out, _ := natural.Shift(a, n)
	return out
}
