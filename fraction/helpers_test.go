package fraction_test

import (
	"math/big"
	"math/rand"
	"slices"
	"testing"

	"drydock/api"
)

const (
	top  = 1<<32 - 1         // the greatest limb
	full = api.MaxFracLimbs  // limbs of the longest numerator or denominator
	edge = 32 * full         // binary digits of it
	past = api.MaxBits + 1   // the first number of binary digits behind the point that is refused
	long = api.MaxDigits + 1 // the first length of a row of digits that is refused
)

// repeat returns n limbs of one value.
func repeat(n int, limb uint32) api.Nat {
	return slices.Repeat(api.Nat{limb}, n)
}

// power returns 2^n.
func power(n int) *big.Int {
	return new(big.Int).Lsh(big.NewInt(1), uint(n))
}

// below returns 2^n - 1.
func below(n int) *big.Int {
	return new(big.Int).Sub(power(n), big.NewInt(1))
}

// limbs returns the canonical Nat with the absolute value of v, in new memory.
func limbs(v *big.Int) api.Nat {
	var out api.Nat
	limb := big.NewInt(top)
	for rest := new(big.Int).Abs(v); rest.Sign() > 0; rest.Rsh(rest, 32) {
		out = append(out, uint32(new(big.Int).And(rest, limb).Uint64()))
	}
	return out
}

// integer returns the value of a.
func integer(a api.Nat) *big.Int {
	bytes := make([]byte, 0, 4*len(a))
	for _, limb := range slices.Backward(a) {
		bytes = append(bytes, byte(limb>>24), byte(limb>>16), byte(limb>>8), byte(limb))
	}
	return new(big.Int).SetBytes(bytes)
}

// isValid reports whether x is valid, as the document says it.
func isValid(x api.Frac) bool {
	num, den := integer(x.Num), integer(x.Den)
	return den.Sign() != 0 && num.BitLen() <= edge && den.BitLen() <= edge
}

// value returns the value of x, whose denominator is not 0, computed apart from the program.
func value(x api.Frac) *big.Rat {
	out := new(big.Rat).SetFrac(integer(x.Num), integer(x.Den))
	if x.Neg {
		out.Neg(out)
	}
	return out
}

// frac returns the fraction in lowest terms with the value v.
func frac(v *big.Rat) api.Frac {
	return api.Frac{Neg: v.Sign() < 0, Num: limbs(v.Num()), Den: limbs(v.Denom())}
}

// over returns the fraction num / den as it is.
func over(num, den *big.Int) api.Frac {
	return api.Frac{Neg: num.Sign() < 0, Num: limbs(num), Den: limbs(den)}
}

// ratio returns num / den.
func ratio(num, den int64) *big.Rat {
	return big.NewRat(num, den)
}

// whole returns the number v.
func whole(v *big.Int) *big.Rat {
	return new(big.Rat).SetInt(v)
}

// isLarge reports whether v has a numerator or a denominator of too many limbs.
func isLarge(v *big.Rat) bool {
	return v.Num().BitLen() > edge || v.Denom().BitLen() > edge
}

// same reports whether x and y are the same, part by part. nil and empty parts are the same.
func same(x, y api.Frac) bool {
	return x.Neg == y.Neg && slices.Equal(x.Num, y.Num) && slices.Equal(x.Den, y.Den)
}

// negated returns minus x, without another change.
func negated(x api.Frac) api.Frac {
	x.Neg = !x.Neg
	return x
}

// random returns n limbs, of which many are at the ends of their range. The last one is not 0.
func random(r *rand.Rand, n int) *big.Int {
	ends := []uint32{0, 1, 1 << 31, top - 1, top}
	out := make(api.Nat, n)
	for i := range out {
		out[i] = r.Uint32()
		if r.Intn(2) == 0 {
			out[i] = ends[r.Intn(len(ends))]
		}
	}
	if n > 0 && out[n-1] == 0 {
		out[n-1] = 1
	}
	return integer(out)
}

// randomFrac returns a valid fraction with at most n limbs, often not in lowest terms.
func randomFrac(r *rand.Rand, n int) api.Frac {
	num, den := random(r, r.Intn(n+1)), random(r, 1+r.Intn(n))
	if common := random(r, 1+r.Intn(n)); r.Intn(3) == 0 && den.BitLen()+common.BitLen() <= edge && num.BitLen()+common.BitLen() <= edge {
		num.Mul(num, common)
		den.Mul(den, common)
	}
	x := over(num, den)
	x.Neg = r.Intn(2) == 0
	return x
}

// forms returns valid fractions with the value of x: with common factors, with zero limbs at the end, and 0 with a sign.
func forms(x api.Frac) []api.Frac {
	out := []api.Frac{x}
	zeros := repeat(full+1, 0)
	for _, factor := range []*big.Int{big.NewInt(1), big.NewInt(2), big.NewInt(15), power(32), power(95), below(64)} {
		form := over(new(big.Int).Mul(integer(x.Num), factor), new(big.Int).Mul(integer(x.Den), factor))
		form.Neg = x.Neg
		if isValid(form) {
			out = append(out, form, api.Frac{Neg: form.Neg, Num: append(slices.Clone(form.Num), 0), Den: slices.Concat(form.Den, zeros)})
		}
	}
	if integer(x.Num).Sign() == 0 {
		out = append(out, negated(x), api.Frac{Neg: true, Num: zeros, Den: api.Nat{6}}, api.Frac{Neg: true, Num: api.Nat{}, Den: repeat(full, top)})
	}
	return out
}

// samples returns numbers of all sizes up to the limit, in lowest terms.
func samples() []api.Frac {
	var out []api.Frac
	for _, v := range []*big.Rat{
		ratio(0, 1), ratio(1, 1), ratio(2, 1), ratio(1, 2), ratio(1, 3), ratio(2, 3), ratio(5, 6), ratio(7, 4), ratio(top, 2), ratio(1<<32, 9), ratio(9, 1<<40),
		whole(power(edge - 1)), whole(below(edge)), whole(below(edge / 2)), whole(power(edge / 2)), whole(power(edge/2 - 1)),
		new(big.Rat).SetFrac(below(edge), power(edge-1)), new(big.Rat).SetFrac(power(edge-1), below(edge)), new(big.Rat).SetFrac(below(edge), power(64)),
		new(big.Rat).SetFrac(big.NewInt(1), power(edge-1)), new(big.Rat).SetFrac(big.NewInt(1), below(edge)), new(big.Rat).SetFrac(big.NewInt(3), power(edge/2)),
		new(big.Rat).SetFrac(below(200), power(256)), new(big.Rat).SetFrac(power(90), below(91)), new(big.Rat).SetFrac(below(300), below(301)),
	} {
		out = append(out, frac(v))
		if v.Sign() != 0 {
			out = append(out, frac(new(big.Rat).Neg(v)))
		}
	}
	return out
}

// invalid returns fractions that are not valid.
func invalid() []api.Frac {
	zeros := repeat(full+2, 0)
	return []api.Frac{
		{}, {Num: api.Nat{1}}, {Neg: true, Num: api.Nat{1}, Den: api.Nat{}}, {Num: api.Nat{3}, Den: api.Nat{0}}, {Num: api.Nat{3}, Den: zeros},
		{Num: append(repeat(full, 0), 1), Den: api.Nat{1}}, {Neg: true, Num: repeat(full+1, top), Den: api.Nat{1, 0}}, {Den: append(repeat(full, 0), 1)},
		{Num: api.Nat{1}, Den: repeat(full+1, 1)}, {Num: append(repeat(full, 0), 1), Den: append(repeat(full, 0), 1)}, {Num: append(repeat(full, 0), 1, 0, 0), Den: zeros},
	}
}

// pairs calls check for all pairs of fractions, valid or not; each number takes its forms in turn.
func pairs(check func(x, y api.Frac)) {
	turn := 0
	for _, x := range slices.Concat(samples(), invalid()) {
		for _, y := range slices.Concat(samples(), invalid()) {
			turn++
			check(x, y)
			check(pick(x, turn), pick(y, turn/3))
		}
	}
}

// pick returns a form of x.
func pick(x api.Frac, turn int) api.Frac {
	if !isValid(x) {
		return x
	}
	list := forms(x)
	return list[turn%len(list)]
}

// loan is a number that lies within a longer array. What a function may not touch has a copy.
type loan struct{ limbs, all, copy api.Nat }

func lendNat(a api.Nat) loan {
	if a == nil {
		return loan{}
	}
	all := slices.Concat(api.Nat{11, 12}, a, api.Nat{13, 14, 15})
	return loan{limbs: all[2 : 2+len(a)], all: all, copy: slices.Clone(all)}
}

// lend returns arguments equal to list, and a function that reports whether they are as they were.
func lend(list []api.Frac) ([]api.Frac, func() bool) {
	out := make([]api.Frac, 0, len(list)+2)
	var loans []loan
	for _, x := range list {
		num, den := lendNat(x.Num), lendNat(x.Den)
		loans = append(loans, num, den)
		out = append(out, api.Frac{Neg: x.Neg, Num: num.limbs, Den: den.limbs})
	}
	return out, func() bool {
		for i, l := range loans {
			if !slices.Equal(l.all, l.copy) || out[i/2].Neg != list[i/2].Neg || len(out[i/2].Num) != len(list[i/2].Num) || len(out[i/2].Den) != len(list[i/2].Den) {
				return false
			}
		}
		return true
	}
}

// spoil changes a number and all spare memory behind it.
func spoil(a api.Nat) {
	a = a[:cap(a)]
	for i := range a {
		a[i] = ^a[i]
	}
}

// answer is what a function returned: a fraction, or a text or a number.
type answer struct {
	frac api.Frac
	text string
	num  int
	err  api.Errno
}

func (a answer) equal(b answer) bool {
	return same(a.frac, b.frac) && a.text == b.text && a.num == b.num && a.err == b.err
}

// ask calls f with the arguments and checks the rules: arguments are neither changed nor kept, results share no memory, and they are the same again.
func ask(t *testing.T, f func(l []api.Frac) answer, list ...api.Frac) answer {
	t.Helper()
	args, unharmed := lend(list)
	got := f(args)
	kept := got
	kept.frac.Num, kept.frac.Den = slices.Clone(got.frac.Num), slices.Clone(got.frac.Den)
	spoil(got.frac.Num)
	if !slices.Equal(got.frac.Den, kept.frac.Den) {
		t.Errorf("%v: Num and Den share memory", kept.frac)
	}
	spoil(got.frac.Den)
	if !unharmed() {
		t.Errorf("%v: an argument was changed, or shares memory with the result", list)
	}
	if again := f(args); !again.equal(kept) {
		t.Errorf("%v: another result for the same arguments: %v, then %v", list, kept, again)
	}
	return kept
}

// expect compares an answer with the one that is right.
func expect(t *testing.T, got, want answer, list ...api.Frac) {
	t.Helper()
	if !got.equal(want) {
		t.Errorf("arguments %v: got %v, want %v", list, got, want)
	}
}

// right returns the answer of a function whose result is v, in lowest terms if it is not large.
func right(v *big.Rat) answer {
	if isLarge(v) {
		return answer{err: api.ErrSize}
	}
	return answer{frac: frac(v)}
}
