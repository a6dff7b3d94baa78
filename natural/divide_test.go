package natural_test

import (
	"math/big"
	"math/rand"
	"slices"
	"testing"

	"drydock/api"
	"drydock/natural"
)

func div(a, b api.Nat) answer {
	q, r, err := natural.Div(a, b)
	return answer{[]api.Nat{q, r}, err}
}

// divSwapped returns the results in the other order, so that both are spoiled before the other is looked at.
func divSwapped(a, b api.Nat) answer {
	q, r, err := natural.Div(a, b)
	return answer{[]api.Nat{r, q}, err}
}

func gcd(a, b api.Nat) answer {
	g, err := natural.Gcd(a, b)
	return answer{[]api.Nat{g}, err}
}

// checkDiv compares Div with the quotient and the remainder that were computed apart from the program.
func checkDiv(t *testing.T, a, b api.Nat) {
	t.Helper()
	q, r, err := new(big.Int), new(big.Int), api.OK
	if isLarge(value(a)) || isLarge(value(b)) {
		err = api.ErrSize
	} else if value(b).Sign() == 0 {
		err = api.ErrZero
	} else {
		q.QuoRem(value(a), value(b), r)
	}
	expect(t, "Div", a, b, ask(t, "Div", div, a, b), err, q, r)
	expect(t, "Div", a, b, ask(t, "Div", divSwapped, a, b), err, r, q)
}

// checkGcd compares Gcd with the divisor that was computed apart from the program.
func checkGcd(t *testing.T, a, b api.Nat) {
	t.Helper()
	g, err := new(big.Int), api.OK
	if isLarge(value(a)) || isLarge(value(b)) {
		err = api.ErrSize
	} else {
		g.GCD(nil, nil, value(a), value(b))
	}
	expect(t, "Gcd", a, b, ask(t, "Gcd", gcd, a, b), err, g)
}

// P1.3
func TestDiv(t *testing.T) {
	pairs(func(a, b api.Nat) { checkDiv(t, a, b) })
	checkDiv(t, api.Nat{7}, api.Nat{2})
	checkDiv(t, repeat(513, 1), repeat(513, 1))
	checkDiv(t, nil, repeat(513, 1))
	for _, zero := range []api.Nat{nil, {}, {0}, repeat(600, 0)} {
		checkDiv(t, zero, zero)
		checkDiv(t, repeat(512, top), zero)
		checkDiv(t, repeat(513, top), zero) // ErrSize comes first
		checkDiv(t, zero, api.Nat{3, 0})
	}
}

// P1.3: the first guess of a digit of the quotient is too great, or does not fit into a limb.
func TestDivHardDigits(t *testing.T) {
	for _, c := range [][2]api.Nat{
		{{3, 0, 1 << 31}, {1, 0, 1 << 29}},
		{{0, top - 1, 1 << 31}, {top, 1 << 31}},
		{{0, 0, 1 << 31, 1<<31 - 1}, {1, 0, 1 << 31}},
		{{0, 1, 1 << 31}, {1, 1 << 31}},
		{{0, 0, 0, 1 << 31}, {top, top, 1 << 31}},
		{{top, top, top - 1}, {top, top}},
		{{0, 0, top}, {1, top}},
		{{0, 0, 0, 1}, {top, 0, 1}},
	} {
		checkDiv(t, c[0], c[1])
	}
	r := rand.New(rand.NewSource(3))
	for range 20000 {
		checkDiv(t, random(r, r.Intn(8)), random(r, r.Intn(5)))
	}
	for range 300 {
		checkDiv(t, random(r, r.Intn(513)), random(r, r.Intn(513)))
	}
}

// P1.3: multiples of the divisor, and the numbers beside them.
func TestDivExact(t *testing.T) {
	r := rand.New(rand.NewSource(4))
	for range 300 {
		b := random(r, 1+r.Intn(40))
		p := new(big.Int).Mul(value(b), value(random(r, 1+r.Intn(40))))
		checkDiv(t, canonical(p), b)
		checkDiv(t, canonical(p.Sub(p, big.NewInt(1))), b)
		checkDiv(t, canonical(p.Add(p, value(b))), b)
	}
}

// P1.6: a is the quotient times b plus the remainder, which is less than b.
func TestDivLaw(t *testing.T) {
	r := rand.New(rand.NewSource(5))
	for range 500 {
		a, b := random(r, r.Intn(400)), random(r, 1+r.Intn(200))
		q, rest, err := natural.Div(a, b)
		back := must(t, add(must(t, mul(q, b)), rest))
		if err != api.OK || !slices.Equal(back, a) || natural.Cmp(rest, b) >= 0 {
			t.Errorf("Div(%v, %v) = %v, %v", a, b, q, rest)
		}
	}
}

// P1.3
func TestGcd(t *testing.T) {
	pairs(func(a, b api.Nat) { checkGcd(t, a, b) })
	for _, c := range [][2]api.Nat{
		{{12}, {18}}, {{35}, {64}}, {{0, 1}, {6}}, {{0, 6}, {0, 4}}, {nil, {6, 0}}, {{0}, {0, 0}},
		{repeat(513, 1), nil}, {nil, repeat(513, 1)}, {nil, repeat(512, top)}, {repeat(512, top), repeat(512, top)},
	} {
		checkGcd(t, c[0], c[1])
		checkGcd(t, c[1], c[0])
	}
}

// P1.3: numbers of all sizes with a common divisor.
func TestGcdOfMultiples(t *testing.T) {
	r := rand.New(rand.NewSource(7))
	for range 1500 {
		g := value(random(r, r.Intn(12)))
		a := new(big.Int).Mul(g, value(random(r, r.Intn(12))))
		b := new(big.Int).Mul(g, value(random(r, r.Intn(12))))
		checkGcd(t, canonical(a), canonical(b))
		checkGcd(t, canonical(a), canonical(b.Add(b, a)))
	}
	for range 60 {
		g := value(random(r, r.Intn(256)))
		a := new(big.Int).Mul(g, value(random(r, r.Intn(256))))
		b := new(big.Int).Mul(g, value(random(r, r.Intn(256))))
		checkGcd(t, canonical(a), canonical(b))
	}
}

// P1.3: Fibonacci numbers need the greatest number of steps; numbers with great quotients need few, and neighbours none but the first.
func TestGcdOfExtremes(t *testing.T) {
	a, b := big.NewInt(1), big.NewInt(1)
	for n := 0; !isLarge(b); n++ {
		if n%400 == 0 || n < 200 {
			checkGcd(t, canonical(a), canonical(b))
			checkGcd(t, canonical(new(big.Int).Add(b, b)), canonical(new(big.Int).Add(a, a)))
		}
		a, b = b, a.Add(a, b)
	}
	for n := 1; n < 512; n += 37 {
		checkGcd(t, power(32*n), power(32*n-1))
		checkGcd(t, power(16383), power(32*n))
		checkGcd(t, repeat(512, top), repeat(n, top))
		checkGcd(t, repeat(n, top), append(repeat(n-1, top), top-1))
		checkGcd(t, append(api.Nat{1}, power(32*n)...), power(32*n))
	}
}

// P1.3: the divisor divides both, and the quotients have no common divisor.
func TestGcdLaw(t *testing.T) {
	r := rand.New(rand.NewSource(8))
	for range 100 {
		a, b := random(r, 1+r.Intn(60)), random(r, 1+r.Intn(60))
		g := must(t, gcd(a, b))
		p, left, _ := natural.Div(a, g)
		q, right, _ := natural.Div(b, g)
		if len(left)+len(right) != 0 || !slices.Equal(must(t, gcd(p, q)), api.Nat{1}) {
			t.Errorf("Gcd(%v, %v) = %v", a, b, g)
		}
	}
}
