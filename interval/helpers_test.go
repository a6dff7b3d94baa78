package interval_test

import (
	"math/big"
	"math/rand"
	"slices"
	"testing"

	"drydock/api"
)

const (
	top  = 1<<32 - 1        // the greatest limb
	full = api.MaxFracLimbs // limbs of the longest numerator or denominator
	edge = 32 * full        // binary digits of it
	past = api.MaxBits + 1  // the first number of binary digits behind the point that is refused
)

// repeat returns n limbs of one value.
func repeat(n int, limb uint32) api.Nat {
	return slices.Repeat(api.Nat{limb}, n)
}

// power returns 2^n.
func power(n int) *big.Int {
	return new(big.Int).Lsh(big.NewInt(1), uint(n))
}

// below returns 2^n - 1.
func below(n int) *big.Int {
	return new(big.Int).Sub(power(n), big.NewInt(1))
}

// limbs returns the canonical Nat with the absolute value of v, in new memory.
func limbs(v *big.Int) api.Nat {
	bytes := v.Bytes()
	out := make(api.Nat, (len(bytes)+3)/4)
	for i, b := range bytes {
		place := len(bytes) - 1 - i
		out[place/4] |= uint32(b) << (8 * (place % 4))
	}
	return out
}

// integer returns the value of a.
func integer(a api.Nat) *big.Int {
	bytes := make([]byte, 0, 4*len(a))
	for _, limb := range slices.Backward(a) {
		bytes = append(bytes, byte(limb>>24), byte(limb>>16), byte(limb>>8), byte(limb))
	}
	return new(big.Int).SetBytes(bytes)
}

// ratio returns num / den.
func ratio(num, den int64) *big.Rat {
	return big.NewRat(num, den)
}

// quotient returns num / den.
func quotient(num, den *big.Int) *big.Rat {
	return new(big.Rat).SetFrac(num, den)
}

// whole returns the number v.
func whole(v *big.Int) *big.Rat {
	return new(big.Rat).SetInt(v)
}

// The following functions return what their names say, as a new number.

func plus(x, y *big.Rat) *big.Rat  { return new(big.Rat).Add(x, y) }
func minus(x, y *big.Rat) *big.Rat { return new(big.Rat).Sub(x, y) }
func times(x, y *big.Rat) *big.Rat { return new(big.Rat).Mul(x, y) }
func negated(x *big.Rat) *big.Rat  { return new(big.Rat).Neg(x) }

func least(first *big.Rat, others ...*big.Rat) *big.Rat {
	return slices.MinFunc(append(others, first), (*big.Rat).Cmp)
}

func greatest(first *big.Rat, others ...*big.Rat) *big.Rat {
	return slices.MaxFunc(append(others, first), (*big.Rat).Cmp)
}

// isLarge reports whether a numerator or a denominator of a number of l has too many limbs.
func isLarge(l ...*big.Rat) bool {
	return slices.ContainsFunc(l, func(v *big.Rat) bool { return v.Num().BitLen() > edge || v.Denom().BitLen() > edge })
}

// frac returns the fraction in lowest terms with the value v.
func frac(v *big.Rat) api.Frac {
	return api.Frac{Neg: v.Sign() < 0, Num: limbs(v.Num()), Den: limbs(v.Denom())}
}

// span returns the interval from lo to hi, with ends in lowest terms.
func span(lo, hi *big.Rat) api.Interval {
	return api.Interval{Lo: frac(lo), Hi: frac(hi)}
}

// value returns the value of x, whose denominator is not 0, computed apart from the program.
func value(x api.Frac) *big.Rat {
	out := quotient(integer(x.Num), integer(x.Den))
	if x.Neg {
		out.Neg(out)
	}
	return out
}

// values returns the ends of a valid interval.
func values(a api.Interval) (lo, hi *big.Rat) {
	return value(a.Lo), value(a.Hi)
}

// isFrac reports whether x is valid, as the document says it.
func isFrac(x api.Frac) bool {
	num, den := integer(x.Num), integer(x.Den)
	return den.Sign() != 0 && num.BitLen() <= edge && den.BitLen() <= edge
}

// isValid reports whether all intervals of l are valid, as the document says it.
func isValid(l ...api.Interval) bool {
	for _, a := range l {
		if !isFrac(a.Lo) || !isFrac(a.Hi) || value(a.Lo).Cmp(value(a.Hi)) > 0 {
			return false
		}
	}
	return true
}

// forms returns valid fractions with the value of x: with common factors, with zero limbs at the end, and 0 with a sign.
func forms(x api.Frac) []api.Frac {
	out := []api.Frac{x}
	for _, factor := range []*big.Int{big.NewInt(1), big.NewInt(6), power(33)} {
		num, den := new(big.Int).Mul(integer(x.Num), factor), new(big.Int).Mul(integer(x.Den), factor)
		form := api.Frac{Neg: x.Neg, Num: limbs(num), Den: limbs(den)}
		if isFrac(form) {
			out = append(out, form, api.Frac{Neg: x.Neg, Num: append(limbs(num), 0), Den: slices.Concat(form.Den, repeat(full+1, 0))})
		}
	}
	if integer(x.Num).Sign() == 0 {
		out = append(out, api.Frac{Neg: true, Den: api.Nat{1}}, api.Frac{Neg: true, Num: repeat(full+1, 0), Den: api.Nat{6}}, api.Frac{Neg: true, Den: repeat(full, top)})
	}
	return out
}

// form returns a form of a fraction, or the fraction if it is not valid. Turns choose the form.
func form(x api.Frac, turn int) api.Frac {
	if !isFrac(x) {
		return x
	}
	list := forms(x)
	return list[turn%len(list)]
}

// shape returns the interval a with ends in other forms.
func shape(a api.Interval, turn int) api.Interval {
	return api.Interval{Lo: form(a.Lo, turn), Hi: form(a.Hi, turn/3)}
}

// invalidFracs returns fractions that are not valid.
func invalidFracs() []api.Frac {
	return []api.Frac{
		{}, {Num: api.Nat{1}}, {Neg: true, Num: api.Nat{3}, Den: repeat(full+2, 0)}, {Num: append(repeat(full, 0), 1), Den: api.Nat{1}},
		{Den: append(repeat(full, 0), 1)}, {Neg: true, Num: append(repeat(full, 0), 1, 0), Den: append(repeat(full, 0), 1)},
	}
}

// invalid returns intervals that are not valid: with an end that is no valid fraction, and with ends in the wrong order.
func invalid() []api.Interval {
	out := []api.Interval{{}}
	for _, x := range []api.Frac{frac(ratio(-2, 3)), frac(ratio(0, 1)), frac(ratio(5, 1))} {
		for _, bad := range invalidFracs() {
			out = append(out, api.Interval{Lo: bad, Hi: x}, api.Interval{Lo: x, Hi: bad})
		}
	}
	return append(out, api.Interval{Lo: invalidFracs()[3], Hi: invalidFracs()[3]},
		span(ratio(2, 1), ratio(1, 1)), span(ratio(1, 3), ratio(-1, 3)), span(ratio(-1, 3), ratio(-1, 2)), span(ratio(0, 1), ratio(-1, 1)), span(ratio(1, 9), ratio(0, 1)),
		span(whole(below(edge)), whole(new(big.Int).Sub(below(edge), big.NewInt(1)))), span(quotient(big.NewInt(1), below(edge)), negated(quotient(big.NewInt(1), below(edge)))))
}

// spans returns all intervals whose ends are among the numbers l, which are in order.
func spans(l ...*big.Rat) []api.Interval {
	var out []api.Interval
	for i, lo := range l {
		for _, hi := range l[i:] {
			out = append(out, span(lo, hi))
		}
	}
	return out
}

// small returns intervals with ends of every sign.
func small() []api.Interval {
	return spans(ratio(-3, 1), ratio(-2, 3), ratio(-1, 2), ratio(0, 1), ratio(1, 3), ratio(1, 1), ratio(5, 2))
}

// huge returns intervals of which many ends have as many limbs as they may have, or half as many.
func huge() []api.Interval {
	tiny, half := quotient(big.NewInt(1), power(edge-1)), whole(power(edge/2))
	near, third := quotient(below(edge), power(edge-1)), quotient(big.NewInt(1), below(edge))
	return spans(negated(whole(below(edge))), negated(half), negated(tiny), ratio(0, 1), third, near, half, whole(below(edge)))
}

// shapes returns the intervals of l, each in many shapes.
func shapes(l []api.Interval) [][]api.Interval {
	out := make([][]api.Interval, len(l))
	for i, a := range l {
		for turn := range 23 {
			out[i] = append(out[i], shape(a, turn))
		}
	}
	return out
}

// pairs calls check for all pairs of small intervals, all pairs of huge ones, and those that are not valid; the intervals take other shapes in turn.
func pairs(check func(a, b api.Interval)) {
	turn := 0
	both := func(l, m [][]api.Interval) {
		for _, a := range l {
			for _, b := range m {
				turn++
				check(a[turn%len(a)], b[turn/2%len(b)])
			}
		}
	}
	few, many, bad := shapes(small()), shapes(huge()), shapes(invalid())
	both(few, few)
	both(many, many)
	both(bad, slices.Concat(bad, few, many))
	both(slices.Concat(few, many), bad)
}

// random returns a number with numerator and denominator of at most n limbs.
func random(r *rand.Rand, n int) *big.Rat {
	num := new(big.Int).Rand(r, power(32*(1+r.Intn(n))))
	den := new(big.Int).Rand(r, power(32*(1+r.Intn(n))))
	if r.Intn(2) == 0 {
		num.Neg(num)
	}
	if r.Intn(8) == 0 {
		num.SetInt64(0)
	}
	return quotient(num, den.Add(den, big.NewInt(1)))
}

// randomInterval returns a valid interval whose ends have at most n limbs, in any form.
func randomInterval(r *rand.Rand, n int) api.Interval {
	x, y := random(r, n), random(r, n)
	return shape(span(least(x, y), greatest(x, y)), r.Intn(100))
}

// loan is a number that lies within a longer array. What a function may not touch has a copy.
type loan struct{ limbs, all, copy api.Nat }

func lendNat(a api.Nat) loan {
	if a == nil {
		return loan{}
	}
	all := slices.Concat(api.Nat{11, 12}, a, api.Nat{13, 14, 15})
	return loan{limbs: all[2 : 2+len(a)], all: all, copy: slices.Clone(all)}
}

// lend returns arguments equal to list, and a function that reports whether they are as they were.
func lend(list []api.Interval) ([]api.Interval, func() bool) {
	var loans []loan
	lendFrac := func(x api.Frac) api.Frac {
		num, den := lendNat(x.Num), lendNat(x.Den)
		loans = append(loans, num, den)
		return api.Frac{Neg: x.Neg, Num: num.limbs, Den: den.limbs}
	}
	out := make([]api.Interval, 0, len(list)+2)
	for _, a := range list {
		out = append(out, api.Interval{Lo: lendFrac(a.Lo), Hi: lendFrac(a.Hi)})
	}
	return out, func() bool {
		for i, a := range list {
			if !identical(a.Lo, out[i].Lo) || !identical(a.Hi, out[i].Hi) {
				return false
			}
		}
		return !slices.ContainsFunc(loans, func(l loan) bool { return !slices.Equal(l.all, l.copy) })
	}
}

// identical reports whether x and y are the same, part by part. nil and empty parts are the same.
func identical(x, y api.Frac) bool {
	return x.Neg == y.Neg && slices.Equal(x.Num, y.Num) && slices.Equal(x.Den, y.Den)
}

// same reports whether a and b are the same, part by part.
func same(a, b api.Interval) bool {
	return identical(a.Lo, b.Lo) && identical(a.Hi, b.Hi)
}

// answer is what a function returned: an interval or a fraction (as Lo), and true or false.
type answer struct {
	is  api.Interval
	yes bool
	err api.Errno
}

func (a answer) equal(b answer) bool {
	return same(a.is, b.is) && a.yes == b.yes && a.err == b.err
}

// right returns the answer of a function whose result goes from lo to hi.
func right(lo, hi *big.Rat) answer {
	return answer{is: span(lo, hi)}
}

// refused returns the answer of a function with an error.
func refused(err api.Errno) answer {
	return answer{err: err}
}

// parts returns the numbers that a consists of.
func parts(a api.Interval) []api.Nat {
	return []api.Nat{a.Lo.Num, a.Lo.Den, a.Hi.Num, a.Hi.Den}
}

// spoil changes all numbers of a and the spare memory behind them, each of them once.
func spoil(a api.Interval) {
	for _, part := range parts(a) {
		part = part[:cap(part)]
		for i := range part {
			part[i] ^= 0x5a5a5a5a
		}
	}
}

// clone returns a copy of a that shares no memory with it.
func clone(a api.Interval) api.Interval {
	a.Lo.Num, a.Lo.Den, a.Hi.Num, a.Hi.Den = slices.Clone(a.Lo.Num), slices.Clone(a.Lo.Den), slices.Clone(a.Hi.Num), slices.Clone(a.Hi.Den)
	return a
}

// shared reports whether two parts of a share memory, or the spare memory behind them.
func shared(a api.Interval) bool {
	list := parts(a)
	for i, part := range list {
		kept := clone(a)
		spoil(api.Interval{Lo: api.Frac{Num: part}})
		for k, other := range list {
			if k != i && !slices.Equal(other, parts(kept)[k]) {
				return true
			}
		}
		spoil(api.Interval{Lo: api.Frac{Num: part}})
	}
	return false
}

// ask calls f with the arguments and checks the rules: arguments are neither changed nor kept, results share no memory, and they are the same again.
func ask(t *testing.T, f func(l []api.Interval) answer, list ...api.Interval) answer {
	t.Helper()
	args, unharmed := lend(list)
	got := f(args)
	kept := got
	kept.is = clone(got.is)
	if shared(got.is) {
		t.Errorf("%v: parts of the result share memory", list)
	}
	spoil(got.is)
	if !unharmed() {
		t.Errorf("%v: an argument was changed, or shares memory with the result", list)
	}
	if again := f(args); !again.equal(kept) {
		t.Errorf("%v: another result for the same arguments: %v, then %v", list, kept, again)
	}
	return kept
}

// expect asks f and compares the answer with the one that is right.
func expect(t *testing.T, f func(l []api.Interval) answer, want answer, list ...api.Interval) {
	t.Helper()
	if got := ask(t, f, list...); !got.equal(want) {
		t.Errorf("arguments %v: got %v, want %v", list, got, want)
	}
}

// lone returns x as the Lo of an argument, for functions that take a fraction.
func lone(x api.Frac) api.Interval {
	return api.Interval{Lo: x}
}
