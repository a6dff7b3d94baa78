package expo_test

import (
	"math"
	"math/big"
	"math/rand"
	"testing"

	"drydock/api"
	"drydock/expo"
)

// someBits and someIndices are numbers of digits and n that are allowed, with the least and the greatest.
func someBits() []int { return []int{1, 2, 5, 31, 32, 33, 48, 63, maxBits} }

func someIndices() []int { return []int{0, 1, 2, 3, 7, 20, 64, 100, 255, maxIndex} }

// float returns about the value of v.
func float(v *big.Int) float64 {
	out, _ := quotient(v, power(digits)).Float64()
	return out
}

// The model is right as far as floats tell.
func TestModel(t *testing.T) {
	near := func(x, y float64) bool { return math.Abs(x-y) < 1e-9*y+1e-15 }
	for _, x := range means() {
		m := newModel(x, maxIndex)
		mean, _ := x.Float64()
		sum := 0.0
		for n, v := range m.weights {
			gamma, _ := math.Lgamma(float64(n + 1))
			if want := math.Exp(float64(n)*math.Log(mean) - mean - gamma); !near(float(v), want) {
				t.Errorf("mean %v: the weight of %d is %v, want %v", x, n, float(v), want)
			}
			sum += float(v)
			if !near(sum+float(m.tails[n]), 1) {
				t.Errorf("mean %v: the tail behind %d is %v, the weights before it have the sum %v", x, n, float(m.tails[n]), sum)
			}
		}
	}
}

// P4.1: every function, with x, n and bits of every size.
func TestEnclosures(t *testing.T) {
	for _, x := range means() {
		m := newModel(x, maxIndex)
		for _, f := range functions() {
			for i, n := range someIndices() {
				if f.name == "Exp" && n > 0 {
					break
				}
				for k, bits := range someBits() {
					if i < 3 || (i+k)%3 == 0 {
						f.check(t, m, n, bits)
					}
				}
			}
		}
	}
}

// P4.1
func TestRandomEnclosures(t *testing.T) {
	r := rand.New(rand.NewSource(4))
	for range 150 {
		den := new(big.Int).Rand(r, power(1+r.Intn(64)))
		den.Add(den, big.NewInt(1)).Rsh(den, uint(den.BitLen()/65))
		top := new(big.Int).Lsh(den, 6)
		if top.BitLen() > 64 {
			top = below(64)
		}
		num := new(big.Int).Rand(r, top)
		x := quotient(num.Add(num, big.NewInt(1)), den)
		m := newModel(x, maxIndex)
		for _, f := range functions() {
			f.check(t, m, r.Intn(maxIndex+1), 1+r.Intn(maxBits))
			f.check(t, m, r.Intn(8), 1+r.Intn(maxBits))
		}
	}
}

// P4.1: the document's examples and others, written out.
func TestEnclosuresByHand(t *testing.T) {
	one, three := ratio(1, 1), ratio(3, 1)
	for _, c := range []struct {
		name    string
		x       *big.Rat
		n, bits int
		lo, hi  *big.Rat
	}{
		{"Exp", one, 0, 2, ratio(1, 4), ratio(1, 2)},
		{"Poisson", one, 1, 2, ratio(1, 4), ratio(1, 2)},
		{"Exp", one, 0, 1, ratio(0, 1), ratio(1, 2)},                  // 0.368
		{"Exp", ratio(1, 2), 0, 3, ratio(1, 2), ratio(5, 8)},          // 0.607
		{"Exp", ratio(64, 1), 0, maxBits, ratio(0, 1), unit(maxBits)}, // about 2^-92
		{"Exp", unit(63), 0, 1, ratio(1, 2), one},                     // close to 1
		{"Exp", unit(63), 0, 62, minus(one, unit(62)), one},           // 1 - 2^-63
		{"Exp", unit(63), 0, 63, minus(one, unit(63)), one},           // a little more than 1 - 2^-63
		{"Exp", unit(63), 0, 64, minus(one, unit(63)), plus(minus(one, unit(63)), unit(64))},
		{"Poisson", three, 0, 4, ratio(0, 1), ratio(1, 16)},   // 0.0498
		{"Poisson", three, 2, 4, ratio(3, 16), ratio(1, 4)},   // 0.224
		{"Poisson", three, 3, 5, ratio(7, 32), ratio(1, 4)},   // 0.224
		{"Poisson", three, 256, 64, ratio(0, 1), unit(64)},    // less than 2^-1000
		{"Poisson", unit(63), 1, 64, unit(64), unit(63)},      // a little less than 2^-63
		{"Poisson", unit(63), 0, 1, ratio(1, 2), one},         // close to 1
		{"Poisson", unit(63), 2, 64, ratio(0, 1), unit(64)},   // about 2^-127
		{"Poisson", unit(63), 256, 64, ratio(0, 1), unit(64)}, // less than 2^-16000
		{"Tail", one, 0, 3, ratio(5, 8), ratio(3, 4)},         // 0.632
		{"Tail", one, 1, 3, ratio(1, 4), ratio(3, 8)},         // 0.264
		{"Tail", three, 2, 4, ratio(9, 16), ratio(5, 8)},      // 0.577
		{"Tail", ratio(64, 1), 0, 64, minus(one, unit(64)), one},
		{"Tail", ratio(64, 1), 256, 64, ratio(0, 1), unit(64)},
		{"Tail", unit(63), 0, 64, unit(64), unit(63)}, // a little less than 2^-63
		{"Tail", unit(63), 0, 63, ratio(0, 1), unit(63)},
		{"Tail", unit(63), 256, 1, ratio(0, 1), ratio(1, 2)},
	} {
		for _, f := range functions() {
			if f.name != c.name {
				continue
			}
			if got, err := f.call(frac(c.x), c.n, c.bits); err != api.OK || !same(got, span(c.lo, c.hi)) {
				t.Errorf("%s(%v, %d, %d) = %v, %d, want from %v to %v", f.name, c.x, c.n, c.bits, got, err, c.lo, c.hi)
			}
		}
	}
}

// P4.1, P4.2: x = 0 in all its forms.
func TestZero(t *testing.T) {
	zero := forms(ratio(0, 1))
	zero = append(zero, api.Frac{Neg: true, Den: api.Nat{1}}, api.Frac{Neg: true, Num: api.Nat{0, 0, 0}, Den: limbs(below(128))}, api.Frac{Den: api.Nat{0, 0, 0, 7}})
	for _, x := range zero {
		for _, f := range functions() {
			for _, n := range someIndices() {
				for _, bits := range someBits() {
					want := span(ratio(0, 1), ratio(0, 1))
					if f.name == "Exp" || f.name == "Poisson" && n == 0 {
						want = span(ratio(1, 1), ratio(1, 1))
					}
					if got, err := f.call(x, n, bits); err != api.OK || !same(got, want) {
						t.Errorf("%s(%v, %d, %d) = %v, %d, want %v", f.name, x, n, bits, got, err, want)
					}
				}
			}
		}
		for _, bits := range someBits() {
			if n, err := expo.Terms(x, bits); n != 0 || err != api.OK {
				t.Errorf("Terms(%v, %d) = %d, %d", x, bits, n, err)
			}
		}
	}
}

// P4.1, P4.2: x counts in lowest terms, in whatever form it is given.
func TestForms(t *testing.T) {
	for _, x := range means() {
		for _, form := range forms(x) {
			for _, f := range functions() {
				want, _ := f.call(frac(x), 3, 20)
				if got, err := f.call(form, 3, 20); err != api.OK || !same(got, want) {
					t.Errorf("%s(%v, 3, 20) = %v, %d, want %v", f.name, form, got, err, want)
				}
			}
			want, _ := expo.Terms(frac(x), 20)
			if got, err := expo.Terms(form, 20); err != api.OK || got != want {
				t.Errorf("Terms(%v, 20) = %d, %d, want %d", form, got, err, want)
			}
		}
	}
}

// P4.2
func TestTerms(t *testing.T) {
	for _, x := range means() {
		m := newModel(x, maxIndex)
		for bits := 1; bits <= maxBits; bits += 3 {
			got, err := expo.Terms(frac(x), bits)
			if want := m.least(t, bits); got != want || err != api.OK {
				t.Errorf("Terms(%v, %d) = %d, %d, want %d", x, bits, got, err, want)
			}
		}
	}
}

// P4.2: the document's example and others, written out.
func TestTermsByHand(t *testing.T) {
	for _, c := range []struct {
		x          *big.Rat
		bits, want int
	}{
		{ratio(1, 1), 2, 2}, {ratio(1, 1), 1, 1}, {ratio(1, 2), 1, 0}, {ratio(3, 4), 1, 1},
		{unit(63), 1, 0}, {unit(63), 63, 0}, {unit(63), 64, 1}, {quotient(big.NewInt(1), below(64)), 63, 0}, {quotient(big.NewInt(1), below(64)), 64, 1},
		{unit(32), 31, 0}, {unit(32), 32, 0}, {unit(32), 33, 1}, {unit(32), 64, 1}, {unit(31), 64, 2},
		{ratio(7, 1), 30, 28}, {ratio(64, 1), 1, 64}, {ratio(64, 1), 64, 149},
	} {
		if got, err := expo.Terms(frac(c.x), c.bits); got != c.want || err != api.OK {
			t.Errorf("Terms(%v, %d) = %d, %d, want %d", c.x, c.bits, got, err, c.want)
		}
	}
}

// P4.2: the tail at the answer is below 2^-bits, the tail at one less is not.
func TestTermsIsTheLeast(t *testing.T) {
	for _, x := range means() {
		for _, bits := range []int{1, 2, 17, 40, maxBits} {
			n, err := expo.Terms(frac(x), bits)
			if a, _ := expo.Tail(frac(x), n, bits); err != api.OK || value(a.Hi).Cmp(unit(bits)) != 0 {
				t.Errorf("Terms(%v, %d) = %d, %d, but the tail is %v", x, bits, n, err, a)
			}
			if n == 0 {
				continue
			}
			if a, _ := expo.Tail(frac(x), n-1, bits); value(a.Lo).Cmp(unit(bits)) < 0 {
				t.Errorf("Terms(%v, %d) = %d, but the tail before it is %v", x, bits, n, a)
			}
		}
	}
}
