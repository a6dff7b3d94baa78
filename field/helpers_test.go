package field_test

import (
	"math/big"
	"math/rand"
	"slices"
	"testing"

	"drydock/api"
	"drydock/field"
)

// The tests compute with polynomials apart from the program: their products are written out coefficient by coefficient, and divided by the modulus with a rest.

const modulus = 1<<8 | 1<<4 | 1<<3 | 1<<2 | 1

// product returns the product of two elements.
func product(a, b byte) byte {
	p := 0
	for i := range 8 {
		for j := range 8 {
			p ^= int(a>>i&1) * int(b>>j&1) << (i + j)
		}
	}
	for degree := 14; degree >= 8; degree-- {
		if p>>degree&1 != 0 {
			p ^= modulus << (degree - 8)
		}
	}
	return byte(p)
}

// products returns the products of all pairs of elements.
func products() *[256][256]byte {
	var out [256][256]byte
	for a := range out {
		for b := range out {
			out[a][b] = product(byte(a), byte(b))
		}
	}
	return &out
}

// inverse returns the element whose product with a is 1, found by search.
func inverse(t *testing.T, a byte) byte {
	t.Helper()
	found := []byte{}
	for b := range 256 {
		if product(a, byte(b)) == 1 {
			found = append(found, byte(b))
		}
	}
	if len(found) != 1 {
		t.Fatalf("%#x has the inverses %v", a, found)
	}
	return found[0]
}

// power returns the power n of a, which is not 0: the powers are listed until they begin again.
func power(a byte, n int) byte {
	list := []byte{1}
	for p := a; p != 1; p = product(p, a) {
		list = append(list, p)
	}
	// The rest of a big.Int is from 0 on, also below 0.
	rest := new(big.Int).Mod(big.NewInt(int64(n)), big.NewInt(int64(len(list))))
	return list[rest.Int64()]
}

// times returns the product of two matrices.
func times(a, b [][]byte) [][]byte {
	out := make([][]byte, len(a))
	for i, row := range a {
		out[i] = make([]byte, len(b[0]))
		for j := range out[i] {
			for k, x := range row {
				out[i][j] ^= product(x, b[k][j])
			}
		}
	}
	return out
}

// unit returns the identity with n rows.
func unit(n int) [][]byte {
	out := zeros(n, n)
	for i := range out {
		out[i][i] = 1
	}
	return out
}

// zeros returns a matrix of zeros.
func zeros(rows, columns int) [][]byte {
	out := make([][]byte, rows)
	for i := range out {
		out[i] = make([]byte, columns)
	}
	return out
}

// random returns a matrix of any elements.
func random(r *rand.Rand, rows, columns int) [][]byte {
	out := zeros(rows, columns)
	for i := range out {
		r.Read(out[i])
	}
	return out
}

// regular returns a matrix that has an inverse: a product of a lower and an upper triangle without 0 in the diagonals, with its rows exchanged.
func regular(r *rand.Rand, n int) [][]byte {
	low, high := random(r, n, n), random(r, n, n)
	for i := range n {
		clear(low[i][i+1:])
		clear(high[i][:i])
		low[i][i], high[i][i] = byte(1+r.Intn(255)), byte(1+r.Intn(255))
	}
	out := times(low, high)
	r.Shuffle(n, func(i, j int) { out[i], out[j] = out[j], out[i] })
	return out
}

// cloned returns a copy of a that shares no memory with it, with spare memory behind every list.
func cloned(a [][]byte) [][]byte {
	out := make([][]byte, len(a), len(a)+1)
	for i, row := range a {
		out[i] = append(make([]byte, 0, len(row)+1), row...)
	}
	return out
}

// spareIsClean reports whether nothing was written behind the lists of a copy that cloned has made.
func spareIsClean(a [][]byte) bool {
	for _, row := range a {
		if row[:len(row)+1][len(row)] != 0 {
			return false
		}
	}
	return a[:len(a)+1][len(a)] == nil
}

// same reports whether two matrices are equal.
func same(a, b [][]byte) bool {
	return slices.EqualFunc(a, b, slices.Equal)
}

// checkInverse compares a result of Invert with the expected one.
func checkInverse(t *testing.T, a, want [][]byte) {
	t.Helper()
	if got, err := field.Invert(a); err != api.OK || !same(got, want) {
		t.Errorf("Invert(%v) = %v, %d, want %v", a, got, err, want)
	}
}

// checkInverted checks that a has an inverse, by products from both sides.
func checkInverted(t *testing.T, a [][]byte) {
	t.Helper()
	got, err := field.Invert(a)
	if err != api.OK || len(got) != len(a) {
		t.Errorf("Invert(%v) = %v, %d", a, got, err)
		return
	}
	for _, row := range got {
		if len(row) != len(a) {
			t.Errorf("Invert(%v) = %v", a, got)
			return
		}
	}
	if one := unit(len(a)); !same(times(a, got), one) || !same(times(got, a), one) {
		t.Errorf("Invert(%v) = %v: the product is not the identity", a, got)
	}
}

// checkNotInverted checks the error of Invert.
func checkNotInverted(t *testing.T, name string, a [][]byte, want api.Errno) {
	t.Helper()
	if got, err := field.Invert(a); err != want || len(got) != 0 {
		t.Errorf("Invert of %s = %v, %d, want %d", name, got, err, want)
	}
}
