package expo_test

import (
	"math/big"
	"slices"
	"testing"

	"drydock/api"
	"drydock/expo"
)

const (
	maxBits  = 64
	maxIndex = 256
	digits   = 1400 // binary digits behind the point of the numbers of a model
	sure     = 1100 // those of them that are right
)

// power returns 2^n.
func power(n int) *big.Int {
	return new(big.Int).Lsh(big.NewInt(1), uint(n))
}

// below returns 2^n - 1.
func below(n int) *big.Int {
	return new(big.Int).Sub(power(n), big.NewInt(1))
}

// limbs returns the canonical Nat with the absolute value of v, in new memory.
func limbs(v *big.Int) api.Nat {
	bytes := v.Bytes()
	out := make(api.Nat, (len(bytes)+3)/4)
	for i, b := range bytes {
		place := len(bytes) - 1 - i
		out[place/4] |= uint32(b) << (8 * (place % 4))
	}
	return out
}

// integer returns the value of a.
func integer(a api.Nat) *big.Int {
	bytes := make([]byte, 0, 4*len(a))
	for _, limb := range slices.Backward(a) {
		bytes = append(bytes, byte(limb>>24), byte(limb>>16), byte(limb>>8), byte(limb))
	}
	return new(big.Int).SetBytes(bytes)
}

// ratio returns num / den.
func ratio(num, den int64) *big.Rat {
	return big.NewRat(num, den)
}

// quotient returns num / den.
func quotient(num, den *big.Int) *big.Rat {
	return new(big.Rat).SetFrac(num, den)
}

// The following functions return what their names say, as a new number.

func plus(x, y *big.Rat) *big.Rat  { return new(big.Rat).Add(x, y) }
func minus(x, y *big.Rat) *big.Rat { return new(big.Rat).Sub(x, y) }
func times(x, y *big.Rat) *big.Rat { return new(big.Rat).Mul(x, y) }

// frac returns the fraction in lowest terms with the value v.
func frac(v *big.Rat) api.Frac {
	return api.Frac{Neg: v.Sign() < 0, Num: limbs(v.Num()), Den: limbs(v.Denom())}
}

// span returns the interval from lo to hi, with ends in lowest terms.
func span(lo, hi *big.Rat) api.Interval {
	return api.Interval{Lo: frac(lo), Hi: frac(hi)}
}

// value returns the value of x, whose denominator is not 0.
func value(x api.Frac) *big.Rat {
	out := quotient(integer(x.Num), integer(x.Den))
	if x.Neg {
		out.Neg(out)
	}
	return out
}

// unit returns 2^-bits.
func unit(bits int) *big.Rat {
	return quotient(big.NewInt(1), power(bits))
}

// identical reports whether x and y are the same, part by part. nil and empty parts are the same.
func identical(x, y api.Frac) bool {
	return x.Neg == y.Neg && slices.Equal(x.Num, y.Num) && slices.Equal(x.Den, y.Den)
}

// same reports whether a and b are the same, part by part.
func same(a, b api.Interval) bool {
	return identical(a.Lo, b.Lo) && identical(a.Hi, b.Hi)
}

// forms returns fractions with the value of x, of which some have many more limbs: with common factors, with zero limbs at the end, and 0 with a sign.
func forms(x *big.Rat) []api.Frac {
	out := []api.Frac{frac(x)}
	for _, factor := range []*big.Int{big.NewInt(1), big.NewInt(6), power(33), below(64), below(32 * (api.MaxFracLimbs - 2))} {
		num, den := limbs(new(big.Int).Mul(x.Num(), factor)), limbs(new(big.Int).Mul(x.Denom(), factor))
		out = append(out, api.Frac{Neg: x.Sign() < 0, Num: num, Den: den})
		out = append(out, api.Frac{Neg: x.Sign() <= 0, Num: append(limbs(integer(num)), 0, 0), Den: append(limbs(integer(den)), 0)})
	}
	return out
}

// invalid returns fractions that are not valid, some of them also out of the range of x or with more than two limbs.
func invalid() []api.Frac {
	long := append(slices.Repeat(api.Nat{0}, api.MaxFracLimbs), 1)
	return []api.Frac{
		{}, {Num: api.Nat{1}}, {Neg: true, Num: api.Nat{1}, Den: api.Nat{0, 0}}, {Num: api.Nat{1, 1, 1}, Den: api.Nat{0}},
		{Num: long, Den: api.Nat{1}}, {Num: api.Nat{1}, Den: long}, {Num: long, Den: long}, {Neg: true, Num: long, Den: long},
	}
}

// model holds the numbers of a Poisson distribution with the mean x, computed apart from the program, in units of 2^-digits.
type model struct {
	x              *big.Rat
	weights, tails []*big.Int // the weight of each n, and the sum of the weights behind it
}

// newModel returns the model of x with the numbers up to last.
func newModel(x *big.Rat, last int) model {
	m := model{x: x}
	weight, rest := exponential(x), power(digits)
	for n := range last + 1 {
		if n > 0 {
			weight = new(big.Int).Mul(weight, x.Num())
			weight.Quo(weight, new(big.Int).Mul(x.Denom(), big.NewInt(int64(n))))
		}
		rest = new(big.Int).Sub(rest, weight)
		m.weights, m.tails = append(m.weights, weight), append(m.tails, rest)
	}
	return m
}

// exponential returns e to the power of -x in units: by the alternating series for x / 1024, whose sum is squared ten times.
func exponential(x *big.Rat) *big.Int {
	const halvings = 10
	den := new(big.Int).Lsh(x.Denom(), halvings)
	sum, term := power(digits), power(digits)
	for i := int64(1); term.Sign() != 0; i++ {
		term = new(big.Int).Mul(term, x.Num())
		term.Quo(term, new(big.Int).Mul(den, big.NewInt(-i)))
		sum.Add(sum, term)
	}
	for range halvings {
		sum.Rsh(sum.Mul(sum, sum), digits)
	}
	return sum
}

// enclosed returns the interval of one unit of the last digit around v, which is no multiple of 2^-bits.
func enclosed(t *testing.T, v *big.Int, bits int) api.Interval {
	t.Helper()
	slack := power(digits - sure)
	lo := new(big.Int).Rsh(new(big.Int).Sub(v, slack), uint(digits-bits))
	hi := new(big.Int).Rsh(new(big.Int).Add(v, slack), uint(digits-bits))
	if lo.Sign() < 0 {
		lo.SetInt64(0) // all numbers are positive
	}
	if hi.Cmp(power(bits)) == 0 {
		hi.Sub(hi, big.NewInt(1)) // all numbers are less than 1
	}
	if lo.Cmp(hi) != 0 {
		t.Fatalf("the model is too coarse for %v with %d digits", v, bits)
	}
	return span(quotient(lo, power(bits)), quotient(hi.Add(hi, big.NewInt(1)), power(bits)))
}

// function is one of the functions that enclose a number, with the model's number. Exp ignores n.
type function struct {
	name   string
	call   func(x api.Frac, n, bits int) (api.Interval, api.Errno)
	number func(m model, n int) *big.Int
}

func exp(x api.Frac, _, bits int) (api.Interval, api.Errno) {
	return expo.Exp(x, bits)
}

func functions() []function {
	return []function{
		{"Exp", exp, func(m model, _ int) *big.Int { return m.weights[0] }},
		{"Poisson", expo.Poisson, func(m model, n int) *big.Int { return m.weights[n] }},
		{"Tail", expo.Tail, func(m model, n int) *big.Int { return m.tails[n] }},
	}
}

// check compares an enclosure with the one of the model, for x above 0.
func (f function) check(t *testing.T, m model, n, bits int) {
	t.Helper()
	got, err := f.call(frac(m.x), n, bits)
	if want := enclosed(t, f.number(m, n), bits); err != api.OK || !same(got, want) {
		t.Errorf("%s(%v, %d, %d) = %v, %d, want %v", f.name, m.x, n, bits, got, err, want)
	}
}

// least returns the least n for which the model's tail is less than 2^-bits.
func (m model) least(t *testing.T, bits int) int {
	t.Helper()
	for n, v := range m.tails {
		if len(enclosed(t, v, bits).Lo.Num) == 0 {
			return n
		}
	}
	t.Fatalf("the model of %v ends too early", m.x)
	return 0
}

// means returns numbers above 0 of every size that are allowed for x, among them the least one, the greatest one below 64, and 64.
func means() []*big.Rat {
	return []*big.Rat{
		quotient(big.NewInt(1), below(64)), quotient(big.NewInt(2), below(64)), quotient(big.NewInt(3), below(63)), unit(63), unit(60), unit(33), unit(32), unit(31),
		quotient(below(32), power(63)), ratio(1, 1000003), ratio(1, 100), ratio(1, 3), ratio(1, 2), quotient(below(64), new(big.Int).SetUint64(12345678901234567891)),
		ratio(1, 1), ratio(2, 1), ratio(31, 10), ratio(7, 1), quotient(new(big.Int).SetUint64(18446744073709551557), power(60)), ratio(20, 1), ratio(97, 3),
		ratio(50, 1), quotient(below(63), power(57)), quotient(below(64), power(58)), ratio(64, 1),
	}
}

// bounds returns the ends of a valid interval.
func bounds(a api.Interval) (lo, hi *big.Rat) {
	return value(a.Lo), value(a.Hi)
}
