package field_test

import (
	"bytes"
	"math/big"
	"math/rand"
	"testing"

	"drydock/api"
	"drydock/field"
)

// P6.5: the laws of a field, for all elements, pairs and triples.
func TestFieldLaws(t *testing.T) {
	var times [256][256]byte
	for a := range 256 {
		for b := range 256 {
			times[a][b] = field.Mul(byte(a), byte(b))
		}
	}
	for a := range 256 {
		a := byte(a)
		if field.Add(a, 0) != a || field.Add(a, a) != 0 || times[a][1] != a || times[a][0] != 0 {
			t.Errorf("the laws of 0 and 1 do not hold for %#x", a)
		}
		if b, err := field.Inv(a); a != 0 && (err != api.OK || times[a][b] != 1) {
			t.Errorf("the inverse of %#x: %#x, %d", a, b, err)
		}
		for b := range 256 {
			b := byte(b)
			if field.Add(a, b) != field.Add(b, a) || times[a][b] != times[b][a] || (times[a][b] == 0) != (a == 0 || b == 0) {
				t.Errorf("the laws of pairs do not hold for %#x and %#x", a, b)
			}
			for c := range 256 {
				c := byte(c)
				if field.Add(field.Add(a, b), c) != field.Add(a, field.Add(b, c)) || times[times[a][b]][c] != times[a][times[b][c]] || times[a][field.Add(b, c)] != field.Add(times[a][b], times[a][c]) {
					t.Fatalf("the laws of triples do not hold for %#x, %#x and %#x", a, b, c)
				}
			}
		}
	}
}

// P6.5: Div undoes Mul, and Inv undoes itself.
func TestDivOfProduct(t *testing.T) {
	for b := 1; b < 256; b++ {
		b := byte(b)
		inverted, _ := field.Inv(b)
		if again, err := field.Inv(inverted); again != b || err != api.OK {
			t.Errorf("Inv(Inv(%#x)) = %#x, %d", b, again, err)
		}
		for a := range 256 {
			a := byte(a)
			if got, err := field.Div(field.Mul(a, b), b); got != a || err != api.OK {
				t.Errorf("Div(Mul(%#x, %#x), %#x) = %#x, %d", a, b, b, got, err)
			}
		}
	}
}

// P6.5: the power of a sum of exponents is the product of the powers.
func TestPowOfSum(t *testing.T) {
	list := exponents()
	for n := -20; n < 20; n++ {
		list = append(list, n)
	}
	checked := 0
	for _, m := range list {
		for _, n := range list {
			if sum := new(big.Int).Add(big.NewInt(int64(m)), big.NewInt(int64(n))); !sum.IsInt64() {
				continue
			}
			for a := 1; a < 256; a += 1 + (m&3+n&3)*4 {
				a := byte(a)
				if field.Pow(a, m+n) != field.Mul(field.Pow(a, m), field.Pow(a, n)) {
					t.Fatalf("Pow(%#x, %d + %d) is not the product", a, m, n)
				}
				checked++
			}
		}
	}
	if checked < 100000 {
		t.Errorf("only %d powers were compared", checked)
	}
}

// P6.5: the logarithm of a product is the sum of the logarithms modulo 255.
func TestLogOfProduct(t *testing.T) {
	var logs [256]int
	for a := 1; a < 256; a++ {
		n, err := field.Log(byte(a))
		if err != api.OK || n < 0 || n > 254 || field.Pow(2, n) != byte(a) {
			t.Errorf("Log(%#x) = %d, %d", a, n, err)
		}
		logs[a] = n
	}
	for a := 1; a < 256; a++ {
		for b := 1; b < 256; b++ {
			if got, want := logs[field.Mul(byte(a), byte(b))], (logs[a]+logs[b])%255; got != want {
				t.Errorf("the Log of %#x times %#x is %d, want %d", a, b, got, want)
			}
		}
	}
}

// P6.5: Combine is linear in the factors and in the rows.
func TestCombineIsLinear(t *testing.T) {
	r := rand.New(rand.NewSource(6))
	for range 500 {
		rows, length := 1+r.Intn(6), r.Intn(6)
		c, d, m, k := random(r, 1, rows)[0], random(r, 1, rows)[0], random(r, rows, length), random(r, rows, length)
		factor := byte(r.Intn(256))
		cm, dm, ck := combine(t, c, m), combine(t, d, m), combine(t, c, k)
		sum, multiple := added(c, d), multiplied(factor, c)
		if !bytes.Equal(combine(t, sum, m), added(cm, dm)) || !bytes.Equal(combine(t, multiple, m), multiplied(factor, cm)) {
			t.Errorf("Combine is not linear in the factors %v and %v for the rows %v", c, d, m)
		}
		both, times := make([][]byte, rows), make([][]byte, rows)
		for i := range m {
			both[i], times[i] = added(m[i], k[i]), multiplied(factor, m[i])
		}
		if !bytes.Equal(combine(t, c, both), added(cm, ck)) || !bytes.Equal(combine(t, c, times), multiplied(factor, cm)) {
			t.Errorf("Combine is not linear in the rows %v and %v for the factors %v", m, k, c)
		}
	}
}

// combine returns the result of Combine, which has to be OK.
func combine(t *testing.T, c []byte, rows [][]byte) []byte {
	t.Helper()
	out, err := field.Combine(c, rows)
	if err != api.OK {
		t.Errorf("Combine(%v, %v): error %d", c, rows, err)
	}
	return out
}

// added returns the sum of two rows.
func added(a, b []byte) []byte {
	out := make([]byte, len(a))
	for i := range out {
		out[i] = a[i] ^ b[i]
	}
	return out
}

// multiplied returns the product of a factor and a row.
func multiplied(factor byte, row []byte) []byte {
	out := make([]byte, len(row))
	for i, x := range row {
		out[i] = product(factor, x)
	}
	return out
}

// P6.4: the inverse of the inverse is the matrix, and the inverse of a product the product of the inverses in the other order.
func TestInverseTwice(t *testing.T) {
	r := rand.New(rand.NewSource(7))
	for n := 1; n <= 12; n++ {
		a, b := regular(r, n), regular(r, n)
		x, err := field.Invert(a)
		y, fail := field.Invert(b)
		if err != api.OK || fail != api.OK {
			t.Errorf("errors %d and %d", err, fail)
			continue
		}
		checkInverse(t, x, a)
		checkInverse(t, times(a, b), times(y, x))
	}
}
