package fraction

import (
	"strings"

	"drydock/api"
	"drydock/natural"
)

// The signs in the text of a fraction.
const (
	minusSign = "-"
	slash     = "/"
)

// Parse returns the fraction with the text s.
func Parse(s string) (api.Frac, api.Errno) {
	digits, neg := strings.CutPrefix(s, minusSign)
	above, below, divided := strings.Cut(digits, slash)
	if !divided {
		below = "1"
	}
	// natural.Parse looks at the length of a text first, but here the form of the whole text comes before that.
	if !onlyDigits(above) || !onlyDigits(below) {
		return api.Frac{}, api.ErrSyntax
	}
	num, err := natural.Parse(above)
	if err != api.OK {
		return api.Frac{}, err
	}
	den, err := natural.Parse(below)
	if err != api.OK {
		return api.Frac{}, err
	}
	if isZero(den) {
		return api.Frac{}, api.ErrZero
	}
	return lowest(neg, num, den)
}

// Format returns the text of x in lowest terms.
func Format(x api.Frac) (string, api.Errno) {
	x, err := Reduce(x)
	if err != api.OK {
		return "", err
	}
	text, _ := natural.Format(x.Num)
	if x.Neg {
		text = minusSign + text
	}
	if natural.Bits(x.Den) > 1 {
		below, _ := natural.Format(x.Den)
		text += slash + below
	}
	return text, api.OK
}

// onlyDigits reports whether s consists of one or more decimal digits.
func onlyDigits(s string) bool {
	for i := range len(s) {
		if s[i] < '0' || s[i] > '9' {
			return false
		}
	}
	return s != ""
}
