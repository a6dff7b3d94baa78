package expo_test

import (
	"math/big"
	"math/rand"
	"testing"

	"drydock/api"
	"drydock/expo"
)

// The numbers of this file are as close to a multiple of 2^-bits as a fraction x of two limbs makes them, below it and above it: many more digits than bits are needed to tell the side.

// argument returns about the x for which the number of f is target. From lo to hi, the number grows or falls all the way.
func argument(f function, n int, target *big.Rat, lo, hi *big.Rat) *big.Rat {
	const places = 300
	goal := units(target, digits)
	side := func(x *big.Rat) bool { return f.number(newModel(x, n), n).Cmp(goal) < 0 }
	low, high := units(lo, places), units(hi, places)
	first := side(quotient(low, power(places)))
	for new(big.Int).Sub(high, low).Cmp(big.NewInt(1)) > 0 {
		middle := new(big.Int).Add(low, high)
		middle.Rsh(middle, 1)
		if side(quotient(middle, power(places))) == first {
			low = middle
		} else {
			high = middle
		}
	}
	return quotient(low, power(places))
}

// units returns x in units of 2^-places, rounded down.
func units(x *big.Rat, places uint) *big.Int {
	count := new(big.Int).Lsh(x.Num(), places)
	return count.Quo(count, x.Denom())
}

// convergents returns the fractions of two limbs that come closest to x, from below and from above in turn.
func convergents(x *big.Rat) []*big.Rat {
	var out []*big.Rat
	a, b := new(big.Int).Set(x.Num()), new(big.Int).Set(x.Denom())
	num, den, lastNum, lastDen := big.NewInt(1), big.NewInt(0), big.NewInt(0), big.NewInt(1)
	for b.Sign() != 0 {
		q, rest := new(big.Int).QuoRem(a, b, new(big.Int))
		a, b = b, rest
		num, lastNum = new(big.Int).Add(new(big.Int).Mul(q, num), lastNum), num
		den, lastDen = new(big.Int).Add(new(big.Int).Mul(q, den), lastDen), den
		if num.BitLen() > 64 || den.BitLen() > 64 {
			break
		}
		if num.Sign() > 0 {
			out = append(out, quotient(num, den))
		}
	}
	return out[max(0, len(out)-6):]
}

// distance returns how many binary digits the number of f at x has in common with target behind the point.
func distance(f function, x *big.Rat, n int, target *big.Rat) int {
	v := units(target, digits)
	return digits - v.Sub(v, f.number(newModel(x, n), n)).BitLen()
}

// approach checks f at the fractions that come closest to the x for which its number is target, a multiple of 2^-bits, and returns the greatest distance.
func approach(t *testing.T, f function, n, bits int, target, lo, hi *big.Rat) int {
	t.Helper()
	far := 0
	for _, x := range convergents(argument(f, n, target, lo, hi)) {
		m := newModel(x, n)
		f.check(t, m, n, bits)
		f.check(t, m, n, maxBits)
		far = max(far, distance(f, x, n, target))
		if f.name == "Tail" {
			checkTermsNear(t, m, n, bits)
		}
	}
	return far
}

// checkTermsNear checks Terms for an x for which the tail behind n is close to a multiple of 2^-bits.
func checkTermsNear(t *testing.T, m model, n, bits int) {
	t.Helper()
	got, err := expo.Terms(frac(m.x), bits)
	if want := newModel(m.x, maxIndex).least(t, bits); got != want || err != api.OK {
		t.Errorf("Terms(%v, %d) = %d, %d, want %d", m.x, bits, got, err, want)
	}
}

// P4.1, P4.2
func TestCloseToMultiples(t *testing.T) {
	zero, one, most := ratio(0, 1), ratio(1, 1), ratio(64, 1)
	exp, weight, tail := functions()[0], functions()[1], functions()[2]
	for _, c := range []struct {
		f              function
		n, bits        int
		target, lo, hi *big.Rat
		far            int // the distance that the fractions reach at least
	}{
		{exp, 0, 1, ratio(1, 2), zero, most, 125},
		{exp, 0, 2, ratio(3, 4), zero, most, 125},
		{exp, 0, 64, unit(64), zero, most, 180},
		{exp, 0, 63, minus(one, unit(63)), zero, one, 190},
		{exp, 0, 64, minus(one, times(ratio(12345678901, 1), unit(64))), zero, one, 125},
		{weight, 1, 2, ratio(1, 4), zero, one, 125},
		{weight, 1, 2, ratio(1, 4), one, most, 125},
		{weight, 5, 64, times(ratio(3, 1), unit(64)), zero, ratio(5, 1), 150},
		{weight, 5, 64, times(ratio(3, 1), unit(64)), ratio(5, 1), most, 150},
		{weight, 100, 64, times(ratio(99999999, 1), unit(64)), one, most, 120},
		{weight, 140, 64, unit(64), one, most, 150},
		{tail, 0, 1, ratio(1, 2), zero, most, 125},
		{tail, 0, 63, unit(63), zero, most, 190}, // 2 / (2^64 - 1) is an approximation of the logarithm
		{tail, 0, 64, times(ratio(3, 1), unit(64)), zero, most, 125},
		{tail, 1, 30, unit(30), zero, most, 125},
		{tail, 20, 10, ratio(511, 512), zero, most, 125},
		{tail, 140, 64, unit(64), zero, most, 150},
	} {
		if far := approach(t, c.f, c.n, c.bits, c.target, c.lo, c.hi); far < c.far {
			t.Errorf("%s with n = %d close to %v: the distance is only %d digits", c.f.name, c.n, c.target, far)
		}
	}
}

// P4.1
func TestCloseToRandomMultiples(t *testing.T) {
	r := rand.New(rand.NewSource(5))
	for _, f := range functions() {
		for range 12 {
			n, hi := r.Intn(4), ratio(64, 1)
			if f.name == "Exp" {
				n = 0
			}
			if f.name == "Poisson" {
				hi = ratio(int64(n), 1) // up to there the weight grows
			}
			top := units(f.numberAt(hi, n), maxBits)
			if top.Sign() == 0 || f.name == "Exp" {
				top = power(maxBits)
			}
			count := new(big.Int).Rand(r, top)
			count.Rsh(count, uint(r.Intn(60))).Add(count, big.NewInt(1))
			if count.Cmp(top) < 0 {
				approach(t, f, n, maxBits, quotient(count, power(maxBits)), ratio(0, 1), hi)
			}
		}
	}
}

// numberAt returns about the number of f at x.
func (f function) numberAt(x *big.Rat, n int) *big.Rat {
	return quotient(f.number(newModel(x, n), n), power(digits))
}
