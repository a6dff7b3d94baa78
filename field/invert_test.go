package field_test

import (
	"math/rand"
	"slices"
	"testing"

	"drydock/api"
)

// P6.4: inverses written out, among them those of matrices with 0 in the first place.
func TestInvert(t *testing.T) {
	checkInverse(t, [][]byte{{1}}, [][]byte{{1}})
	checkInverse(t, [][]byte{{2}}, [][]byte{{0x8e}})
	checkInverse(t, [][]byte{{0, 1}, {1, 0}}, [][]byte{{0, 1}, {1, 0}})
	checkInverse(t, [][]byte{{0, 2}, {1, 0}}, [][]byte{{0, 1}, {0x8e, 0}})
	checkInverse(t, [][]byte{{0, 1}, {1, 3}}, [][]byte{{3, 1}, {1, 0}})
	checkInverse(t, [][]byte{{1, 1}, {0, 1}}, [][]byte{{1, 1}, {0, 1}})
	checkInverse(t, [][]byte{{1, 0}, {5, 1}}, [][]byte{{1, 0}, {5, 1}})
	// The second pivot becomes 0 only when the first column is cleared.
	checkInverse(t, [][]byte{{1, 1, 0}, {1, 1, 1}, {0, 1, 0}}, [][]byte{{1, 0, 1}, {0, 0, 1}, {1, 1, 0}})
	checkInverse(t, [][]byte{{0, 1, 0}, {0, 0, 1}, {1, 0, 0}}, [][]byte{{0, 0, 1}, {1, 0, 0}, {0, 1, 0}})
}

// P6.4: matrices of one row: all of them.
func TestInvertOneRow(t *testing.T) {
	checkNotInverted(t, "[[0]]", [][]byte{{0}}, api.ErrSingular)
	for a := 1; a < 256; a++ {
		checkInverse(t, [][]byte{{byte(a)}}, [][]byte{{inverse(t, byte(a))}})
	}
}

// P6.4: matrices of two rows with few different elements have an inverse if and only if their determinant is not 0.
func TestInvertTwoRows(t *testing.T) {
	elements := []byte{0, 1, 2, 3, 4, 0x1d, 0x53, 0x7f, 0x80, 0x8e, 0xca, 0xff}
	singular := 0
	for _, a := range elements {
		for _, b := range elements {
			for _, c := range elements {
				for _, d := range elements {
					m := [][]byte{{a, b}, {c, d}}
					if product(a, d) == product(b, c) {
						checkNotInverted(t, "a matrix of two rows", m, api.ErrSingular)
						singular++
					} else {
						checkInverted(t, m)
					}
				}
			}
		}
	}
	if singular < 100 {
		t.Errorf("only %d matrices are singular", singular)
	}
}

// P6.4: matrices of three bits in a row: all of them, compared with determinants.
func TestInvertThreeRows(t *testing.T) {
	for n := range 512 {
		m := zeros(3, 3)
		for i := range 9 {
			m[i/3][i%3] = byte(n >> i & 1)
		}
		det := byte(0)
		for k := range 3 {
			p, q := (k+1)%3, (k+2)%3
			det ^= m[0][k] & (m[1][p]&m[2][q] ^ m[1][q]&m[2][p])
		}
		if det == 0 {
			checkNotInverted(t, "a matrix of bits", m, api.ErrSingular)
		} else {
			checkInverted(t, m)
		}
	}
}

// P6.4: the identity of every order, and the exchanges of its rows.
func TestInvertIdentity(t *testing.T) {
	r := rand.New(rand.NewSource(2))
	for n := 1; n <= 32; n++ {
		one := unit(n)
		checkInverse(t, one, one)
		back := unit(n)
		slices.Reverse(back)
		checkInverse(t, back, back)
		moved := unit(n)
		moved = append(moved[1:], moved[0])
		checkInverted(t, moved)
		r.Shuffle(n, func(i, j int) { moved[i], moved[j] = moved[j], moved[i] })
		checkInverted(t, moved)
	}
}

// P6.4: matrices of every order from 1 to 32 that have an inverse, with 0 in the first place too.
func TestInvertRegular(t *testing.T) {
	r := rand.New(rand.NewSource(3))
	for n := 1; n <= 32; n++ {
		for range 8 {
			checkInverted(t, regular(r, n))
		}
		if n > 1 {
			checkInverted(t, withZeroInFront(r, n))
		}
	}
}

// withZeroInFront returns a matrix that has an inverse, whose elements in the first column are 0 except the last one.
func withZeroInFront(r *rand.Rand, n int) [][]byte {
	out := zeros(n, n)
	for i, row := range regular(r, n-1) {
		copy(out[i][1:], row)
	}
	r.Read(out[n-1])
	out[n-1][0] = 9
	return out
}

// P6.4: matrices of every order whose first rows are independent, while the last one is a sum of their multiples.
func TestInvertSingular(t *testing.T) {
	r := rand.New(rand.NewSource(4))
	for n := 1; n <= 32; n++ {
		for range 4 {
			m := regular(r, n)
			if n == 1 {
				m[0][0] = 0
			} else {
				m[n-1] = combination(random(r, 1, n-1)[0], m[:n-1])
			}
			checkNotInverted(t, "dependent rows", m, api.ErrSingular)
			last := r.Intn(n)
			m[last], m[n-1] = m[n-1], m[last]
			checkNotInverted(t, "dependent rows in another order", m, api.ErrSingular)
			m = regular(r, n)
			for _, row := range m {
				row[last] = 0
			}
			checkNotInverted(t, "a column of zeros", m, api.ErrSingular)
		}
		checkNotInverted(t, "zeros", zeros(n, n), api.ErrSingular)
	}
	checkNotInverted(t, "equal rows", [][]byte{{1, 2}, {1, 2}}, api.ErrSingular)
	checkNotInverted(t, "a multiple", [][]byte{{1, 2, 0}, {0, 0, 1}, {2, 4, 0}}, api.ErrSingular)
	checkNotInverted(t, "a sum", [][]byte{{1, 0, 7}, {0, 1, 9}, {1, 1, 7 ^ 9}}, api.ErrSingular)
}

// P6.4: what is no matrix of at most 32 rows, also if it is singular too.
func TestInvertErrors(t *testing.T) {
	r := rand.New(rand.NewSource(5))
	for _, e := range []struct {
		name string
		a    [][]byte
	}{
		{"nil", nil}, {"no rows", [][]byte{}}, {"a row that is nil", [][]byte{nil}}, {"an empty row", [][]byte{{}}}, {"two empty rows", [][]byte{{}, nil}},
		{"a long row", [][]byte{{1, 0}}}, {"two short rows", [][]byte{{1}, {1}}}, {"two long rows", [][]byte{{1, 0, 0}, {0, 1, 0}}}, {"a long row of zeros", [][]byte{{0, 0}}},
		{"a short last row", [][]byte{{1, 0}, {1}}}, {"a long last row", [][]byte{{1, 0}, {0, 1, 1}}}, {"an empty last row", [][]byte{{1, 0}, {}}}, {"a last row that is nil", [][]byte{{1, 0}, nil}}, {"an empty first row", [][]byte{{}, {0, 1}}}, {"a short first row", [][]byte{{1}, {0, 1}}},
		{"zeros and a short row", [][]byte{{0, 0}, {0}}}, {"equal rows and a long row", [][]byte{{1, 2, 3}, {1, 2, 3}, {1, 2, 3, 4}}}, {"zeros and an empty row", [][]byte{{0, 0, 0}, {0, 0, 0}, nil}}, {"rows of different lengths", [][]byte{{1, 0, 0}, {1, 0}, {0, 0, 1}}},
		{"33 rows", unit(33)}, {"33 regular rows", regular(r, 33)}, {"33 rows of zeros", zeros(33, 33)}, {"33 rows of 32", zeros(33, 32)}, {"33 empty rows", make([][]byte, 33)}, {"1000 rows", unit(1000)},
		{"32 rows of 33", regular(r, 33)[:32]}, {"32 rows of 31", zeros(32, 31)}, {"31 rows of 32", unit(32)[:31]}, {"a row of 32", zeros(1, 32)}, {"32 rows of 1", zeros(32, 1)},
	} {
		checkNotInverted(t, e.name, e.a, api.ErrArg)
	}
	wrong := unit(32)
	wrong[31] = wrong[31][:31]
	checkNotInverted(t, "32 rows with a short one", wrong, api.ErrArg)
}

// P6.4: the inverses of triangles of 32 rows, whose elements are 1 in the diagonal and all bits above it.
func TestInvertTriangles(t *testing.T) {
	m := unit(32)
	for i, row := range m {
		for j := range row {
			if j > i {
				row[j] = 0xff
			}
		}
	}
	checkInverted(t, m)
	slices.Reverse(m)
	checkInverted(t, m)
}
