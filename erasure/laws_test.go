package erasure_test

import (
	"math/rand"
	"slices"
	"testing"

	"drydock/api"
	"drydock/erasure"
	"drydock/field"
)

// P7.6: no square submatrix of order 1 or 2 of the whole matrix has the determinant 0.
func TestSubmatricesOfOrderTwo(t *testing.T) {
	var times [256][256]byte
	for a := range times {
		for b := range times[a] {
			times[a][b] = product(byte(a), byte(b))
		}
	}
	var matrix [64][64]byte
	for j := range matrix {
		for i := range matrix[j] {
			matrix[j][i] = erasure.Coefficient(j, i)
			if matrix[j][i] == 0 {
				t.Errorf("Coefficient(%d, %d) is 0", j, i)
			}
		}
	}
	for j := range matrix {
		for below := j + 1; below < len(matrix); below++ {
			for i := range matrix {
				for right := i + 1; right < len(matrix); right++ {
					if times[matrix[j][i]][matrix[below][right]] == times[matrix[j][right]][matrix[below][i]] {
						t.Fatalf("the rows %d, %d and the columns %d, %d have the determinant 0", j, below, i, right)
					}
				}
			}
		}
	}
}

// P7.6: every square submatrix of the first rows and columns has an inverse, and so have submatrices of any rows and columns.
func TestSubmatrices(t *testing.T) {
	for order := 1; order <= 7; order++ {
		for _, rows := range sets(7, order) {
			for _, columns := range sets(7, order) {
				checkInverted(t, rows, columns)
			}
		}
	}
	r := rand.New(rand.NewSource(19))
	for range 1000 {
		order := 1 + r.Intn(12)
		checkInverted(t, r.Perm(64)[:order], r.Perm(64)[:order])
	}
}

// checkInverted checks that the coefficients in these rows and columns have an inverse.
func checkInverted(t *testing.T, rows, columns []int) {
	t.Helper()
	matrix := make([][]byte, len(rows))
	for x, j := range rows {
		for _, i := range columns {
			matrix[x] = append(matrix[x], erasure.Coefficient(j, i))
		}
	}
	if _, err := field.Invert(matrix); err != api.OK {
		t.Errorf("the rows %v and the columns %v have no inverse: %d", rows, columns, err)
	}
}

// P7.6: a code word of (k, m + 1) is one of (k, m) with one more row.
func TestOneMoreRow(t *testing.T) {
	r := rand.New(rand.NewSource(20))
	for _, c := range codes() {
		if !slices.Contains(codes(), code{c.k, c.m + 1}) {
			continue
		}
		for range 10 {
			data := random(r, c.k, r.Intn(5))
			small, err := erasure.Encode(c.k, c.m, data)
			large, fail := erasure.Encode(c.k, c.m+1, data)
			if err != api.OK || fail != api.OK || len(large) != c.k+c.m+1 || !same(large[:c.k+c.m], small) {
				t.Errorf("of %v: %v, %d and %v, %d", data, small, err, large, fail)
			}
		}
	}
}

// P7.6: with all rows, a change of any one byte is found, if m is at least 1.
func TestOneByteChanged(t *testing.T) {
	r := rand.New(rand.NewSource(21))
	for _, c := range codes() {
		if c.m == 0 {
			continue
		}
		word := randomWord(r, c, 2)
		for row := range word {
			for x := range word[row] {
				for _, change := range []byte{1, 2, 4, 8, 16, 32, 64, 128, 255, byte(1 + r.Intn(255))} {
					have := pick(word, upTo(len(word))...)
					have[row].Data[x] ^= change
					if got, err := erasure.Decode(c.k, c.m, have); err != api.ErrMismatch || len(got) != 0 {
						t.Errorf("Decode(%d, %d, %v) = %v, %d, but byte %d of row %d was changed", c.k, c.m, have, got, err, x, row)
					}
				}
			}
		}
	}
}

// P7.6: all 255 changes of every byte of one code word.
func TestAllChanges(t *testing.T) {
	c := code{2, 2}
	word := randomWord(rand.New(rand.NewSource(22)), c, 1)
	for row := range word {
		for change := 1; change < 256; change++ {
			have := pick(word, 3, 1, 0, 2)
			have[slices.Index([]int{3, 1, 0, 2}, row)].Data[0] ^= byte(change)
			if got, err := erasure.Decode(c.k, c.m, have); err != api.ErrMismatch || len(got) != 0 {
				t.Errorf("Decode of %v = %v, %d, but row %d was changed by %d", have, got, err, row, change)
			}
		}
	}
}

// P7.6: Join of Split is data, also by way of any k rows of the code word.
func TestJoinOfSplit(t *testing.T) {
	r := rand.New(rand.NewSource(23))
	for _, c := range codes() {
		for _, size := range []int{0, 1, 2, 5, 16, 100} {
			for _, n := range []int{0, r.Intn(c.k*size + 1), r.Intn(c.k*size + 1), c.k * size} {
				data := random(r, 1, n)[0]
				rows, err := erasure.Split(c.k, size, data)
				if err != api.OK {
					t.Fatalf("Split(%d, %d, %v): error %d", c.k, size, data, err)
				}
				checkJoined(t, rows, n, data)
				word, err := erasure.Encode(c.k, c.m, rows)
				if err != api.OK {
					t.Fatalf("Encode(%d, %d, %v): error %d", c.k, c.m, rows, err)
				}
				back, err := erasure.Decode(c.k, c.m, pick(word, r.Perm(len(word))[:c.k]...))
				if err != api.OK {
					t.Fatalf("Decode: error %d", err)
				}
				checkJoined(t, back, n, data)
			}
		}
	}
}
