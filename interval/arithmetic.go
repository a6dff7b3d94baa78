package interval

import (
	"drydock/api"
	"drydock/fraction"
)

// Add returns the least interval that contains the sums of the numbers of a and b.
func Add(a, b api.Interval) (api.Interval, api.Errno) {
	if !Valid(a) || !Valid(b) {
		return api.Interval{}, api.ErrArg
	}
	lo, err := fraction.Add(a.Lo, b.Lo)
	if err != api.OK {
		return api.Interval{}, err
	}
	hi, err := fraction.Add(a.Hi, b.Hi)
	if err != api.OK {
		return api.Interval{}, err
	}
	return api.Interval{Lo: lo, Hi: hi}, api.OK
}

// Sub returns the least interval that contains the differences of the numbers of a and b.
func Sub(a, b api.Interval) (api.Interval, api.Errno) {
	return Add(a, opposite(b))
}

// Mul returns the least interval that contains the products of the numbers of a and b.
func Mul(a, b api.Interval) (api.Interval, api.Errno) {
	if !Valid(a) || !Valid(b) {
		return api.Interval{}, api.ErrArg
	}
	low, err := scaled(a.Lo, b)
	if err != api.OK {
		return api.Interval{}, err
	}
	high, err := scaled(a.Hi, b)
	if err != api.OK {
		return api.Interval{}, err
	}
	// A product is between those with the ends of a, because it grows or falls evenly with each of its factors.
	return api.Interval{Lo: lesser(low.Lo, high.Lo), Hi: greater(low.Hi, high.Hi)}, api.OK
}

// Scale returns the least interval that contains the products of x and the numbers of a.
func Scale(x api.Frac, a api.Interval) (api.Interval, api.Errno) {
	if !fraction.Valid(x) || !Valid(a) {
		return api.Interval{}, api.ErrArg
	}
	return scaled(x, a)
}

// Width returns the distance of the ends of a.
func Width(a api.Interval) (api.Frac, api.Errno) {
	if !Valid(a) {
		return api.Frac{}, api.ErrArg
	}
	return fraction.Sub(a.Hi, a.Lo)
}

// Outward returns the least interval that contains a and has multiples of 2^-bits as its ends.
func Outward(a api.Interval, bits int) (api.Interval, api.Errno) {
	if !Valid(a) {
		return api.Interval{}, api.ErrArg
	}
	lo, err := fraction.Floor(a.Lo, bits)
	if err != api.OK {
		return api.Interval{}, err
	}
	hi, err := fraction.Ceil(a.Hi, bits)
	if err != api.OK {
		return api.Interval{}, err
	}
	return api.Interval{Lo: lo, Hi: hi}, api.OK
}

// opposite returns the interval of the numbers minus x for x in a. It is valid if and only if a is.
func opposite(a api.Interval) api.Interval {
	lo, hi := a.Hi, a.Lo
	lo.Neg, hi.Neg = !lo.Neg, !hi.Neg
	return api.Interval{Lo: lo, Hi: hi}
}

// scaled is Scale of arguments that are valid.
func scaled(x api.Frac, a api.Interval) (api.Interval, api.Errno) {
	var products [2]api.Frac
	for i, end := range ends(a) {
		product, err := fraction.Mul(x, end)
		if err != api.OK {
			return api.Interval{}, err
		}
		products[i] = product
	}
	if x.Neg {
		return api.Interval{Lo: products[1], Hi: products[0]}, api.OK
	}
	return api.Interval{Lo: products[0], Hi: products[1]}, api.OK
}
