package fraction_test

import (
	"math"
	"math/big"
	"math/rand"
	"testing"

	"drydock/api"
	"drydock/fraction"
)

// floor returns the greatest multiple of 2^-bits that is not greater than v.
func floor(v *big.Rat, bits int) *big.Rat {
	count := new(big.Int).Mul(v.Num(), power(bits))
	// Div rounds down here, because the denominator is positive.
	return new(big.Rat).SetFrac(count.Div(count, v.Denom()), power(bits))
}

// ceil returns the least multiple of 2^-bits that is not less than v.
func ceil(v *big.Rat, bits int) *big.Rat {
	out := floor(new(big.Rat).Neg(v), bits)
	return out.Neg(out)
}

// checkRound compares Floor and Ceil with the results or the errors that the document asks for.
func checkRound(t *testing.T, x api.Frac, bits int) {
	t.Helper()
	for _, c := range []struct {
		name string
		call func(x api.Frac, bits int) (api.Frac, api.Errno)
		want func(v *big.Rat, bits int) *big.Rat
	}{{"Floor", fraction.Floor, floor}, {"Ceil", fraction.Ceil, ceil}} {
		f := func(l []api.Frac) answer {
			z, err := c.call(l[0], bits)
			return answer{frac: z, err: err}
		}
		want := answer{}
		switch {
		case !isValid(x):
			want.err = api.ErrArg
		case bits < 0 || bits >= past:
			want.err = api.ErrRange
		default:
			want = right(c.want(value(x), bits))
		}
		if got := ask(t, f, x); !got.equal(want) {
			t.Errorf("%s(%v, %d): got %v, want %v", c.name, x, bits, got, want)
		}
	}
}

// P2.4
func TestRound(t *testing.T) {
	for turn, x := range samples() {
		for _, bits := range []int{math.MinInt64, -1, 0, 1, 2, 31, 32, 33, 64, 100, past - 1, past, past + 1, math.MaxInt64} {
			checkRound(t, x, bits)
			checkRound(t, pick(x, turn+bits&7), bits)
		}
	}
	for _, x := range invalid() {
		for _, bits := range []int{-1, 0, past - 1, past} { // ErrArg comes before ErrRange
			checkRound(t, x, bits)
			checkRound(t, negated(x), bits)
		}
	}
	for _, zero := range forms(api.Frac{Den: api.Nat{1}}) {
		for _, bits := range []int{-1, 0, 5, past - 1, past} {
			checkRound(t, zero, bits)
		}
	}
}

// P2.4: small numbers of both signs, on multiples, beside them and halfway.
func TestRoundSmall(t *testing.T) {
	for num := int64(-40); num <= 40; num++ {
		for den := int64(1); den <= 17; den++ {
			for bits := range 6 {
				checkRound(t, over(big.NewInt(num), big.NewInt(den)), bits)
			}
		}
	}
	for _, c := range []struct {
		num, den    int64
		bits        int
		floor, ceil api.Frac
	}{
		{-1, 3, 1, api.Frac{Neg: true, Num: api.Nat{1}, Den: api.Nat{2}}, api.Frac{Den: api.Nat{1}}},
		{1, 3, 1, api.Frac{Den: api.Nat{1}}, api.Frac{Num: api.Nat{1}, Den: api.Nat{2}}},
		{-1, 3, 0, api.Frac{Neg: true, Num: api.Nat{1}, Den: api.Nat{1}}, api.Frac{Den: api.Nat{1}}},
		{7, 2, 0, api.Frac{Num: api.Nat{3}, Den: api.Nat{1}}, api.Frac{Num: api.Nat{4}, Den: api.Nat{1}}},
		{-7, 2, 0, api.Frac{Neg: true, Num: api.Nat{4}, Den: api.Nat{1}}, api.Frac{Neg: true, Num: api.Nat{3}, Den: api.Nat{1}}},
		{-7, 2, 1, api.Frac{Neg: true, Num: api.Nat{7}, Den: api.Nat{2}}, api.Frac{Neg: true, Num: api.Nat{7}, Den: api.Nat{2}}},
	} {
		x := over(big.NewInt(c.num), big.NewInt(c.den))
		low, _ := fraction.Floor(x, c.bits)
		high, _ := fraction.Ceil(x, c.bits)
		if !same(low, c.floor) || !same(high, c.ceil) {
			t.Errorf("Floor and Ceil of %d/%d with %d bits: %v, %v", c.num, c.den, c.bits, low, high)
		}
	}
}

// P2.4: results of exactly MaxFracLimbs limbs and of one more.
func TestRoundAtTheLimit(t *testing.T) {
	next := func(v *big.Int, by int64) *big.Int { return new(big.Int).Add(v, big.NewInt(by)) }
	for _, c := range []struct {
		num, den *big.Int
		bits     int
		low, up  api.Errno
	}{
		{below(edge), big.NewInt(1), 256, api.OK, api.OK},                     // a whole number stays one
		{below(edge), big.NewInt(2), 0, api.OK, api.OK},                       // 2^(edge-1) - 1 and 2^(edge-1)
		{below(edge), big.NewInt(2), 1, api.OK, api.OK},                       // the number itself
		{below(edge), big.NewInt(2), 256, api.OK, api.OK},                     // the same
		{next(below(edge), -1), big.NewInt(3), 256, api.ErrSize, api.ErrSize}, // more digits than there is room for
		{next(below(edge), -1), big.NewInt(7), 0, api.OK, api.OK},             // fewer
		{next(below(edge), -1), big.NewInt(3), 2, api.OK, api.ErrSize},        // the lower one can be halved
		{next(below(edge), -2), big.NewInt(3), 2, api.ErrSize, api.OK},        // the upper one can be halved
		{big.NewInt(1), below(edge), 256, api.OK, api.OK},                     // 0 and 2^-256
		{next(power(edge-256), 1), below(edge), 256, api.OK, api.OK},          // beside 2^-256
	} {
		x := over(c.num, c.den)
		checkRound(t, x, c.bits)
		checkRound(t, negated(x), c.bits)
		_, low := fraction.Floor(x, c.bits)
		_, up := fraction.Ceil(x, c.bits)
		if low != c.low || up != c.up {
			t.Errorf("%v, %d bits: errors %d and %d, want %d and %d", x, c.bits, low, up, c.low, c.up)
		}
	}
}

// P2.6: Floor(x, bits) is at most x, and less than 2^-bits away; Ceil(x, bits) is minus Floor of minus x.
func TestRoundLaws(t *testing.T) {
	r := rand.New(rand.NewSource(7))
	for range 2000 {
		x, bits := randomFrac(r, 1+r.Intn(8)), r.Intn(past)
		checkRound(t, x, bits)
		low, _ := fraction.Floor(x, bits)
		step := frac(new(big.Rat).SetFrac(big.NewInt(1), power(bits)))
		if c, err := fraction.Cmp(low, x); c > 0 || err != api.OK {
			t.Errorf("Floor(%v, %d) = %v", x, bits, low)
		}
		if c, err := fraction.Cmp(x, must(t, fraction.Add, low, step)); c >= 0 || err != api.OK {
			t.Errorf("Floor(%v, %d) = %v", x, bits, low)
		}
		high, _ := fraction.Ceil(negated(x), bits)
		if total := must(t, fraction.Add, low, high); len(total.Num) != 0 {
			t.Errorf("Floor of %v and Ceil of minus that, %d bits: %v, %v", x, bits, low, high)
		}
	}
}
