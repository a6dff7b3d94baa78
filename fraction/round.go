package fraction

import (
	"drydock/api"
	"drydock/natural"
)

// Floor returns the greatest multiple of 2^-bits that is not greater than x.
func Floor(x api.Frac, bits int) (api.Frac, api.Errno) {
	return rounded(x, bits, x.Neg)
}

// Ceil returns the least multiple of 2^-bits that is not less than x.
func Ceil(x api.Frac, bits int) (api.Frac, api.Errno) {
	return rounded(x, bits, !x.Neg)
}

// rounded returns the multiple of 2^-bits next to x, away from 0 or towards it.
func rounded(x api.Frac, bits int, away bool) (api.Frac, api.Errno) {
	if !Valid(x) {
		return api.Frac{}, api.ErrArg
	}
	if bits < 0 || bits > api.MaxBits {
		return api.Frac{}, api.ErrRange
	}
	count, rest, _ := natural.Div(shift(x.Num, bits), x.Den)
	if away && !isZero(rest) {
		count = plus(count, natural.Make(1))
	}
	return lowest(x.Neg, count, shift(natural.Make(1), bits))
}
