package natural

import (
	"math/bits"

	"drydock/api"
)

// Div returns the quotient of a and b, rounded down, and the remainder.
func Div(a, b api.Nat) (api.Nat, api.Nat, api.Errno) {
	if large(a) || large(b) {
		return nil, nil, api.ErrSize
	}
	a, b = cut(a), cut(b)
	if len(b) == 0 {
		return nil, nil, api.ErrZero
	}
	quotient, rest := divide(a, b)
	return quotient, rest, api.OK
}

// divide returns the quotient and the remainder of two canonical numbers, in canonical form. b is not 0.
func divide(a, b api.Nat) (api.Nat, api.Nat) {
	if Cmp(a, b) < 0 {
		return nil, Trim(a)
	}
	if len(b) == 1 {
		quotient := Trim(a)
		rest := divideLimb(quotient, b[0])
		return cut(quotient), cut(api.Nat{rest})
	}
	// The digits are guessed well only if the first bit of the divisor is set.
	up := bits.LeadingZeros32(b[len(b)-1])
	rest, divisor := raised(a, up), cut(raised(b, up))
	quotient := make(api.Nat, len(a)-len(b)+1)
	for i := len(quotient) - 1; i >= 0; i-- {
		quotient[i] = takeOut(rest[i:i+len(b)+1], divisor)
	}
	return cut(quotient), cut(lowered(rest, up))
}

// divideLimb replaces a by its quotient with d and returns the remainder.
func divideLimb(a api.Nat, d uint32) uint32 {
	rest := uint32(0)
	for i := len(a) - 1; i >= 0; i-- {
		a[i], rest = bits.Div32(rest, a[i], d)
	}
	return rest
}

// takeOut subtracts d from w as often as possible and returns how often. w has one limb more than d, and less than 2^32 times its value.
func takeOut(w, d api.Nat) uint32 {
	n := len(d)
	digit := guess(w[n], w[n-1], w[n-2], d[n-1], d[n-2])
	if subtractMultiple(w, d, digit) {
		return digit
	}
	addBack(w, d)
	return digit - 1
}

// guess returns the quotient of the three leading limbs of a number and the two leading limbs of a divisor whose first bit is set, or the greatest limb if that is less. For the whole numbers, it is right or too great by 1.
func guess(w2, w1, w0, d1, d0 uint32) uint32 {
	const greatest = 1<<limbBits - 1
	top := uint64(w2)<<limbBits | uint64(w1)
	digit := min(top/uint64(d1), greatest)
	rest := top - digit*uint64(d1)
	for rest <= greatest && digit*uint64(d0) > rest<<limbBits|uint64(w0) {
		digit--
		rest += uint64(d1)
	}
	return uint32(digit)
}

// subtractMultiple subtracts digit times d from w and reports whether w was great enough; if it was not, addBack repairs w.
func subtractMultiple(w, d api.Nat, digit uint32) bool {
	carry, borrow := uint64(0), uint32(0)
	for i, x := range d {
		carry += uint64(digit) * uint64(x)
		w[i], borrow = bits.Sub32(w[i], uint32(carry), borrow)
		carry >>= limbBits
	}
	n := len(d)
	w[n], borrow = bits.Sub32(w[n], uint32(carry), borrow)
	return borrow == 0
}

// addBack adds d to w. The carry out of the last limb undoes the borrow of subtractMultiple.
func addBack(w, d api.Nat) {
	carry := uint32(0)
	for i, x := range d {
		w[i], carry = bits.Add32(w[i], x, carry)
	}
	w[len(d)] += carry
}
