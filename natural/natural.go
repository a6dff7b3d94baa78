// Package natural computes with natural numbers of any size up to api.MaxLimbs limbs.
//
// Numbers that are passed in may have zero limbs at the end; numbers that are returned have none and are new memory.
package natural

import (
	"math/bits"

	"drydock/api"
)

// limbBits is the number of binary digits of a limb.
const limbBits = 32

// Make returns the number v.
func Make(v uint64) api.Nat {
	return cut(api.Nat{uint32(v), uint32(v >> limbBits)})
}

// Trim returns a copy of a in canonical form.
func Trim(a api.Nat) api.Nat {
	a = cut(a)
	out := make(api.Nat, len(a))
	copy(out, a)
	return out
}

// Cmp returns -1, 0 or 1 if a is less than, equal to or greater than b.
func Cmp(a, b api.Nat) int {
	a, b = cut(a), cut(b)
	if len(a) != len(b) {
		return sign(len(a) < len(b))
	}
	for i := len(a) - 1; i >= 0; i-- {
		if a[i] != b[i] {
			return sign(a[i] < b[i])
		}
	}
	return 0
}

// Bits returns the number of binary digits of a.
func Bits(a api.Nat) int {
	a = cut(a)
	if len(a) == 0 {
		return 0
	}
	return limbBits*(len(a)-1) + bits.Len32(a[len(a)-1])
}

// Add returns the sum of a and b.
func Add(a, b api.Nat) (api.Nat, api.Errno) {
	// A sum is not less than its parts, so it is large if one of them is.
	return checked(sum(cut(a), cut(b)))
}

// Sub returns the difference of a and b.
func Sub(a, b api.Nat) (api.Nat, api.Errno) {
	if large(a) || large(b) {
		return nil, api.ErrSize
	}
	if Cmp(a, b) < 0 {
		return nil, api.ErrNegative
	}
	return cut(difference(cut(a), cut(b))), api.OK
}

// Mul returns the product of a and b.
func Mul(a, b api.Nat) (api.Nat, api.Errno) {
	if large(a) || large(b) {
		return nil, api.ErrSize
	}
	return checked(product(cut(a), cut(b)))
}

// Shift returns a times 2^n, rounded down.
func Shift(a api.Nat, n int) (api.Nat, api.Errno) {
	size := Bits(a)
	switch {
	case large(a):
		return nil, api.ErrSize
	case size == 0 || n <= -size:
		return nil, api.OK
	case n > api.MaxLimbs*limbBits-size:
		return nil, api.ErrSize
	case n < 0:
		return cut(lowered(cut(a), -n)), api.OK
	}
	return cut(raised(cut(a), n)), api.OK
}

// cut returns the part of a without the zero limbs at the end. It has no spare limbs: a caller who appends to a result gets new memory.
func cut(a api.Nat) api.Nat {
	n := len(a)
	for n > 0 && a[n-1] == 0 {
		n--
	}
	return a[:n:n]
}

// large reports whether the canonical form of a has too many limbs.
func large(a api.Nat) bool {
	return len(cut(a)) > api.MaxLimbs
}

// checked returns a new number in canonical form, or ErrSize if it is large.
func checked(a api.Nat) (api.Nat, api.Errno) {
	if large(a) {
		return nil, api.ErrSize
	}
	return cut(a), api.OK
}

// sign returns the result of a comparison of unequal numbers.
func sign(less bool) int {
	if less {
		return -1
	}
	return 1
}

// limb returns limb i of a, which is 0 behind its end.
func limb(a api.Nat, i int) uint32 {
	if i < len(a) {
		return a[i]
	}
	return 0
}

// sum returns a plus b.
func sum(a, b api.Nat) api.Nat {
	n := max(len(a), len(b))
	out := make(api.Nat, n+1)
	carry := uint32(0)
	for i := range n {
		out[i], carry = bits.Add32(limb(a, i), limb(b, i), carry)
	}
	out[n] = carry
	return out
}

// difference returns a minus b, which is not greater than a.
func difference(a, b api.Nat) api.Nat {
	out := make(api.Nat, len(a))
	borrow := uint32(0)
	for i := range a {
		out[i], borrow = bits.Sub32(a[i], limb(b, i), borrow)
	}
	return out
}

// product returns a times b.
func product(a, b api.Nat) api.Nat {
	out := make(api.Nat, len(a)+len(b))
	for i, x := range a {
		row := out[i : i+len(b)+1]
		carry := uint64(0)
		for j, y := range b {
			carry += uint64(x)*uint64(y) + uint64(row[j])
			row[j] = uint32(carry)
			carry >>= limbBits
		}
		row[len(b)] = uint32(carry)
	}
	return out
}

// raised returns a times 2^n. n is not negative.
func raised(a api.Nat, n int) api.Nat {
	skip, count := n/limbBits, n%limbBits
	out := make(api.Nat, len(a)+skip+1)
	for i, x := range a {
		wide := uint64(x) << count
		out[i+skip] |= uint32(wide)
		out[i+skip+1] = uint32(wide >> limbBits)
	}
	return out
}

// lowered returns a divided by 2^n, rounded down. n is from 0 to the number of binary digits of a.
func lowered(a api.Nat, n int) api.Nat {
	skip, count := n/limbBits, n%limbBits
	out := make(api.Nat, len(a)-skip)
	for i := range out {
		wide := uint64(limb(a, i+skip+1))<<limbBits | uint64(a[i+skip])
		out[i] = uint32(wide >> count)
	}
	return out
}
