package natural

import "drydock/api"

// windowBits is the number of leading binary digits from which the quotients of Euclid's algorithm are guessed. With 62 of them the factors have at most 31 digits, so that apply does not overflow.
const windowBits = 62

// row stands for the combination a A + b B of two numbers A and B.
type row struct{ a, b int64 }

// Gcd returns the greatest common divisor of a and b, 0 if both are 0.
func Gcd(a, b api.Nat) (api.Nat, api.Errno) {
	if large(a) || large(b) {
		return nil, api.ErrSize
	}
	a, b = Trim(a), Trim(b)
	if Cmp(a, b) < 0 {
		a, b = b, a
	}
	for len(b) > 2 {
		a, b = nearer(a, b)
	}
	if len(b) == 0 {
		return a, api.OK
	}
	_, rest := divide(a, b)
	return Make(gcdOfWords(word(b, 0), word(rest, 0))), api.OK
}

// nearer returns two numbers that follow a and b in Euclid's algorithm. It overwrites a and b. a is not less than b, and b has more than two limbs.
func nearer(a, b api.Nat) (api.Nat, api.Nat) {
	skip := Bits(a) - windowBits
	first, second, ok := leap(window(a, skip), window(b, skip))
	if !ok {
		_, rest := divide(a, b)
		return b, rest
	}
	apply(first, second, a, b)
	return cut(a[:len(b)]), cut(b)
}

// leap follows Euclid's algorithm for two numbers of which only the leading digits x and y are known, x not less than y. It returns how the numbers that it reaches are combined from the two, or false if it reaches none.
func leap(x, y int64) (row, row, bool) {
	var first, second row
	ok := false
	now, next := row{a: 1}, row{b: 1}
	for y > 0 {
		q := x / y
		x, y = y, x%y
		now, next = next, row{now.a - q*next.a, now.b - q*next.b}
		// The unknown digits change y by less than the factor of next, and x - y by less than the sum of both factors. While that leaves 0 <= y < x, all quotients so far were right.
		if y < size(next.b) || x-y < size(now.b)+size(next.b) {
			break
		}
		first, second, ok = now, next, true
	}
	return first, second, ok
}

// apply replaces a and b by two combinations of them, of which neither is negative or greater than b; so the limbs of a behind those of b need not be looked at.
func apply(first, second row, a, b api.Nat) {
	var x, y int64
	for i := range b {
		p, q := int64(a[i]), int64(b[i])
		x += first.a*p + first.b*q
		y += second.a*p + second.b*q
		a[i], b[i] = uint32(x), uint32(y)
		x >>= limbBits
		y >>= limbBits
	}
}

// window returns the digits of a from digit skip on. They are at most windowBits.
func window(a api.Nat, skip int) int64 {
	i, count := skip/limbBits, skip%limbBits
	low := word(a, i) >> count
	return int64(low | uint64(limb(a, i+2))<<(2*limbBits-count))
}

// word returns the limbs i and i + 1 of a as one number.
func word(a api.Nat, i int) uint64 {
	return uint64(limb(a, i)) | uint64(limb(a, i+1))<<limbBits
}

// gcdOfWords returns the greatest common divisor of x and y.
func gcdOfWords(x, y uint64) uint64 {
	for y != 0 {
		x, y = y, x%y
	}
	return x
}

// size returns the absolute value of v.
func size(v int64) int64 {
	return max(v, -v)
}
