package natural

import (
	"slices"
	"strings"

	"drydock/api"
)

// Decimal digits are read and written in groups, because a group fits into a limb.
const (
	groupDigits = 9
	groupBase   = 1000000000
)

// Parse returns the number with the decimal digits s.
func Parse(s string) (api.Nat, api.Errno) {
	if len(s) > api.MaxDigits {
		return nil, api.ErrSize
	}
	if !onlyDigits(s) {
		return nil, api.ErrSyntax
	}
	out := make(api.Nat, len(s)/groupDigits+1)
	for len(s) > 0 {
		n := min(len(s), groupDigits)
		appendGroup(out, s[:n])
		s = s[n:]
	}
	return checked(out)
}

// Format returns the decimal digits of a.
func Format(a api.Nat) (string, api.Errno) {
	if large(a) {
		return "", api.ErrSize
	}
	var digits []byte
	for rest := Trim(a); len(rest) > 0; rest = cut(rest) {
		group := divideLimb(rest, groupBase)
		for range groupDigits {
			digits = append(digits, byte('0'+group%10))
			group /= 10
		}
	}
	slices.Reverse(digits)
	text := strings.TrimLeft(string(digits), "0")
	if text == "" {
		return "0", api.OK
	}
	return text, api.OK
}

// onlyDigits reports whether s consists of one or more decimal digits.
func onlyDigits(s string) bool {
	for i := range len(s) {
		if s[i] < '0' || s[i] > '9' {
			return false
		}
	}
	return s != ""
}

// appendGroup puts at most groupDigits decimal digits behind those of a, which has room for them.
func appendGroup(a api.Nat, digits string) {
	carry, scale := uint64(0), uint64(1)
	for i := range len(digits) {
		carry = 10*carry + uint64(digits[i]-'0')
		scale *= 10
	}
	for i, x := range a {
		carry += uint64(x) * scale
		a[i] = uint32(carry)
		carry >>= limbBits
	}
}
