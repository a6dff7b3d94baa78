package erasure_test

import (
	"math"
	"math/rand"
	"testing"

	"drydock/api"
	"drydock/erasure"
)

// P7.1: the coefficients, compared with products of polynomials.
func TestCoefficient(t *testing.T) {
	for j := range 64 {
		for i := range 64 {
			got := erasure.Coefficient(j, i)
			if point := byte(128+j) ^ byte(i); product(got, point) != 1 {
				t.Errorf("Coefficient(%d, %d) = %#x, which is not the inverse of %#x", j, i, got, point)
			}
		}
	}
	for _, c := range []struct {
		j, i int
		want byte
	}{{0, 0, 0x1b}, {0, 1, 0x54}, {1, 0, 0x54}, {1, 3, 0xa1}, {5, 2, 0xb0}, {63, 63, 0x1b}, {63, 0, 0xb6}, {0, 63, 0xb6}} {
		if got := erasure.Coefficient(c.j, c.i); got != c.want {
			t.Errorf("Coefficient(%d, %d) = %#x, want %#x", c.j, c.i, got, c.want)
		}
	}
}

// P7.1: the coefficients of other numbers are 0.
func TestCoefficientOutside(t *testing.T) {
	list := []int{math.MinInt, math.MinInt + 1, math.MinInt + 63, math.MinInt + 128, -1 << 32, 1 << 32, 1<<32 + 1, 1 << 62, math.MaxInt - 1, math.MaxInt}
	for n := range 400 {
		list = append(list, -1-n, 64+n)
	}
	for _, n := range list {
		for inside := range 64 {
			if a, b := erasure.Coefficient(n, inside), erasure.Coefficient(inside, n); a != 0 || b != 0 {
				t.Errorf("Coefficient of %d and %d: %#x and %#x", n, inside, a, b)
			}
		}
		for _, other := range list {
			if got := erasure.Coefficient(n, other); got != 0 {
				t.Fatalf("Coefficient(%d, %d) = %#x", n, other, got)
			}
		}
	}
}

// checkEncoded compares a result of Encode with the expected code word.
func checkEncoded(t *testing.T, c code, data, want [][]byte) {
	t.Helper()
	if got, err := erasure.Encode(c.k, c.m, data); err != api.OK || !same(got, want) {
		t.Errorf("Encode(%d, %d, %v) = %v, %d, want %v", c.k, c.m, data, got, err, want)
	}
}

// checkNotEncoded checks that Encode returns ErrArg.
func checkNotEncoded(t *testing.T, name string, c code, data [][]byte) {
	t.Helper()
	if got, err := erasure.Encode(c.k, c.m, data); err != api.ErrArg || len(got) != 0 {
		t.Errorf("%s: Encode(%d, %d, %v) = %v, %d", name, c.k, c.m, data, got, err)
	}
}

// P7.2: all codes, with rows of many lengths.
func TestEncode(t *testing.T) {
	r := rand.New(rand.NewSource(1))
	for _, c := range codes() {
		for _, length := range []int{0, 1, 2, 3, 16, 255, 256, 257, 4096} {
			data := random(r, c.k, length)
			checkEncoded(t, c, data, codeWord(c, data))
		}
	}
}

// P7.2: code words written out. The inverses of 128 and 129 are 0x1b and 0x54.
func TestEncodeWritten(t *testing.T) {
	checkEncoded(t, code{1, 0}, [][]byte{{1, 2, 3}}, [][]byte{{1, 2, 3}})
	checkEncoded(t, code{1, 2}, [][]byte{{1, 0, 2}}, [][]byte{{1, 0, 2}, {0x1b, 0, 0x36}, {0x54, 0, 0xa8}})
	checkEncoded(t, code{2, 0}, [][]byte{{7}, {9}}, [][]byte{{7}, {9}})
	checkEncoded(t, code{2, 1}, [][]byte{{1, 0, 1}, {0, 1, 1}}, [][]byte{{1, 0, 1}, {0, 1, 1}, {0x1b, 0x54, 0x4f}})
	checkEncoded(t, code{2, 2}, [][]byte{{0, 0x80}, {0, 0x81}}, [][]byte{{0, 0x80}, {0, 0x81}, {0, 0}, {0, 0x4f}})
	checkEncoded(t, code{6, 2}, make([][]byte, 6), make([][]byte, 8))
	checkEncoded(t, code{3, 1}, [][]byte{{0}, {0}, {0}}, [][]byte{{0}, {0}, {0}, {0}})
}

// P7.2: every single byte of data in every row.
func TestEncodeOneByte(t *testing.T) {
	for _, c := range []code{{6, 2}, {4, 4}} {
		for row := range c.k {
			data := random(rand.New(rand.NewSource(2)), c.k, 256)
			for i := range data {
				for x := range data[i] {
					data[i][x] = 0
					if i == row {
						data[i][x] = byte(x)
					}
				}
			}
			checkEncoded(t, c, data, codeWord(c, data))
		}
	}
}

// P7.2: empty rows, nil or not, have a code word of empty rows.
func TestEncodeEmptyRows(t *testing.T) {
	for _, c := range codes() {
		rows := make([][]byte, c.k)
		checkEncoded(t, c, rows, make([][]byte, c.k+c.m))
		rows[c.k-1] = []byte{}
		checkEncoded(t, c, rows, make([][]byte, c.k+c.m))
	}
}

// P7.2: numbers that are no code, for any number of rows.
func TestEncodeNoCode(t *testing.T) {
	r := rand.New(rand.NewSource(3))
	for _, c := range noCodes() {
		for rows := range 13 {
			checkNotEncoded(t, "no code", c, random(r, rows, 2))
			checkNotEncoded(t, "no code and empty rows", c, make([][]byte, rows))
		}
		checkNotEncoded(t, "no code and rows of different lengths", c, [][]byte{{1}, {2, 3}})
		checkNotEncoded(t, "no code and no rows", c, nil)
	}
}

// P7.2: wrong numbers of rows.
func TestEncodeNumberOfRows(t *testing.T) {
	r := rand.New(rand.NewSource(4))
	for _, c := range codes() {
		for rows := range 20 {
			if rows != c.k {
				checkNotEncoded(t, "a wrong number of rows", c, random(r, rows, 3))
				checkNotEncoded(t, "a wrong number of empty rows", c, make([][]byte, rows))
			}
		}
		checkNotEncoded(t, "nil", c, nil)
		checkNotEncoded(t, "a code word", c, append(random(r, c.k, 1), random(r, c.m+1, 1)...))
		checkNotEncoded(t, "many rows", c, random(r, 256+c.k, 1))
	}
}

// P7.2: rows of different lengths.
func TestEncodeLengths(t *testing.T) {
	r := rand.New(rand.NewSource(5))
	for _, c := range codes() {
		for row := range c.k {
			for _, length := range []int{0, 1, 2, 4, 5, 259} {
				data := random(r, c.k, 3)
				data[row] = random(r, 1, length)[0]
				if c.k > 1 {
					checkNotEncoded(t, "rows of different lengths", c, data)
				}
			}
			if c.k > 1 {
				data := make([][]byte, c.k)
				data[row] = []byte{0}
				checkNotEncoded(t, "one row that is not empty", c, data)
			}
		}
	}
	checkNotEncoded(t, "all rows of different lengths", code{3, 0}, [][]byte{{1}, {1, 2}, {}})
	checkNotEncoded(t, "too many rows of different lengths", code{1, 2}, [][]byte{{1}, {1, 2}})
}

// P7.2: the example of the chapter.
func TestEncodeExample(t *testing.T) {
	checkEncoded(t, code{1, 1}, [][]byte{{5}}, [][]byte{{5}, {product(erasure.Coefficient(0, 0), 5)}})
	checkEncoded(t, code{1, 1}, [][]byte{{5}}, [][]byte{{5}, {0x77}})
}
