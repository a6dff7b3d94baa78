package field_test

import (
	"math"
	"testing"

	"drydock/api"
	"drydock/field"
)

// P6.1: Add, Mul and Div for all pairs of elements, compared with polynomials.
func TestPairs(t *testing.T) {
	for b := range 256 {
		inverted := byte(0)
		if b != 0 {
			inverted = inverse(t, byte(b))
		}
		for a := range 256 {
			a, b := byte(a), byte(b)
			sum := byte(0)
			for i := range 8 {
				sum |= (a>>i + b>>i) % 2 << i // coefficients are added modulo 2
			}
			if got := field.Add(a, b); got != sum {
				t.Errorf("Add(%#x, %#x) = %#x, want %#x", a, b, got, sum)
			}
			if got, want := field.Mul(a, b), product(a, b); got != want {
				t.Errorf("Mul(%#x, %#x) = %#x, want %#x", a, b, got, want)
			}
			got, err := field.Div(a, b)
			if b == 0 && (got != 0 || err != api.ErrZero) {
				t.Errorf("Div(%#x, 0) = %#x, %d", a, got, err)
			}
			if b != 0 && (got != product(a, inverted) || err != api.OK) {
				t.Errorf("Div(%#x, %#x) = %#x, %d, want %#x", a, b, got, err, product(a, inverted))
			}
		}
	}
}

// P6.1: Inv of all elements.
func TestInv(t *testing.T) {
	for a := 1; a < 256; a++ {
		if got, err := field.Inv(byte(a)); err != api.OK || got != inverse(t, byte(a)) {
			t.Errorf("Inv(%#x) = %#x, %d, want %#x", a, got, err, inverse(t, byte(a)))
		}
	}
	if got, err := field.Inv(0); got != 0 || err != api.ErrZero {
		t.Errorf("Inv(0) = %#x, %d", got, err)
	}
	if got, err := field.Div(0, 0); got != 0 || err != api.ErrZero {
		t.Errorf("Div(0, 0) = %#x, %d", got, err)
	}
	if got, err := field.Div(0, 7); got != 0 || err != api.OK {
		t.Errorf("Div(0, 7) = %#x, %d", got, err)
	}
}

// P6.2: Pow of every element but 0 for small exponents, by products of as many factors.
func TestPow(t *testing.T) {
	for a := 1; a < 256; a++ {
		a := byte(a)
		inverted := inverse(t, a)
		up, down := byte(1), byte(1)
		for n := range 600 {
			if got := field.Pow(a, n); got != up {
				t.Errorf("Pow(%#x, %d) = %#x, want %#x", a, n, got, up)
			}
			if got := field.Pow(a, -n); got != down {
				t.Errorf("Pow(%#x, %d) = %#x, want %#x", a, -n, got, down)
			}
			up, down = product(up, a), product(down, inverted)
		}
	}
}

// exponents returns exponents at which a power may go wrong.
func exponents() []int {
	return []int{0, 1, 2, 3, 127, 128, 253, 254, 255, 256, 257, 509, 510, 511, 1 << 31, 1<<31 - 1, 1 << 32, 1 << 62, math.MaxInt - 1, math.MaxInt,
		-1, -2, -3, -127, -128, -254, -255, -256, -257, -510, -511, -1 << 31, -1<<31 - 1, -1 << 32, -1 << 62, -math.MaxInt, math.MinInt}
}

// P6.2: Pow of every element for exponents around the order, and for the greatest and the least int.
func TestPowOfFarExponents(t *testing.T) {
	for _, n := range exponents() {
		for a := 1; a < 256; a++ {
			if got, want := field.Pow(byte(a), n), power(byte(a), n); got != want {
				t.Errorf("Pow(%#x, %d) = %#x, want %#x", a, n, got, want)
			}
		}
	}
	// 2^8 is 1 modulo 255, so the greatest int is 127 and the least one is -128, which is 127 too. This power of 2 is 0xcc.
	if most, least := field.Pow(2, math.MaxInt), field.Pow(2, math.MinInt); most != 0xcc || least != 0xcc {
		t.Errorf("Pow(2, n) = %#x for the greatest int and %#x for the least", most, least)
	}
}

// P6.2: the powers of 0.
func TestPowOfZero(t *testing.T) {
	for _, n := range exponents() {
		want := byte(0)
		if n == 0 {
			want = 1
		}
		if got := field.Pow(0, n); got != want {
			t.Errorf("Pow(0, %d) = %#x, want %#x", n, got, want)
		}
	}
}

// P6.2: the powers 0 to 254 of 2 are all elements except 0, and Log returns their exponents.
func TestLog(t *testing.T) {
	seen := map[byte]bool{}
	want := byte(1)
	for n := range 255 {
		if got := field.Pow(2, n); got != want {
			t.Errorf("Pow(2, %d) = %#x, want %#x", n, got, want)
		}
		if got, err := field.Log(want); got != n || err != api.OK {
			t.Errorf("Log(%#x) = %d, %d, want %d", want, got, err, n)
		}
		seen[want] = true
		want = product(want, 2)
	}
	if len(seen) != 255 || seen[0] {
		t.Errorf("%d elements are powers of 2; 0 is one: %v", len(seen), seen[0])
	}
	if got, err := field.Log(0); got != 0 || err != api.ErrZero {
		t.Errorf("Log(0) = %d, %d", got, err)
	}
}

// P6.1, P6.2: the examples of the chapter.
func TestExamples(t *testing.T) {
	if got := field.Mul(0x80, 2); got != 0x1d {
		t.Errorf("Mul(0x80, 2) = %#x", got)
	}
	if got, err := field.Inv(2); got != 0x8e || err != api.OK {
		t.Errorf("Inv(2) = %#x, %d", got, err)
	}
	if got := field.Pow(2, 8); got != 0x1d {
		t.Errorf("Pow(2, 8) = %#x", got)
	}
}
