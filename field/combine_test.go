package field_test

import (
	"bytes"
	"math/rand"
	"testing"

	"drydock/api"
	"drydock/field"
)

// combination returns the sum of the rows, each multiplied by its factor.
func combination(c []byte, rows [][]byte) []byte {
	return times([][]byte{c}, rows)[0]
}

// checkCombine compares a result of Combine with the expected one.
func checkCombine(t *testing.T, c []byte, rows [][]byte, want []byte) {
	t.Helper()
	if got, err := field.Combine(c, rows); err != api.OK || !bytes.Equal(got, want) {
		t.Errorf("Combine(%v, %v) = %v, %d, want %v", c, rows, got, err, want)
	}
}

// P6.3: combinations written out.
func TestCombine(t *testing.T) {
	checkCombine(t, []byte{1}, [][]byte{{1, 2, 3}}, []byte{1, 2, 3})
	checkCombine(t, []byte{0}, [][]byte{{1, 2, 3}}, []byte{0, 0, 0})
	checkCombine(t, []byte{2}, [][]byte{{1, 0x80, 0, 0xff}}, []byte{2, 0x1d, 0, 0xe3})
	checkCombine(t, []byte{1, 1}, [][]byte{{1, 2}, {3, 2}}, []byte{2, 0})
	checkCombine(t, []byte{0, 3}, [][]byte{{9, 9}, {1, 2}}, []byte{3, 6})
	checkCombine(t, []byte{1, 2, 4}, [][]byte{{1, 0, 0}, {0, 1, 0}, {0, 0, 1}}, []byte{1, 2, 4})
	row := []byte{5, 0xfe}
	checkCombine(t, []byte{7, 7}, [][]byte{row, row}, []byte{0, 0})
}

// P6.3: a factor and an element, for all pairs of them.
func TestCombineOne(t *testing.T) {
	all := make([]byte, 256)
	for i := range all {
		all[i] = byte(i)
	}
	for c := range 256 {
		checkCombine(t, []byte{byte(c)}, [][]byte{all}, combination([]byte{byte(c)}, [][]byte{all}))
	}
}

// P6.3: many rows of many lengths.
func TestCombineMany(t *testing.T) {
	r := rand.New(rand.NewSource(1))
	for _, rows := range []int{1, 2, 3, 8, 32, 33, 256, 257, 1000} {
		for _, length := range []int{0, 1, 2, 16, 255, 256, 257} {
			m, c := random(r, rows, length), random(r, 1, rows)[0]
			checkCombine(t, c, m, combination(c, m))
		}
	}
	for range 2000 {
		rows := 1 + r.Intn(8)
		m, c := random(r, rows, r.Intn(8)), random(r, 1, rows)[0]
		checkCombine(t, c, m, combination(c, m))
	}
}

// P6.3: empty rows, nil or not, have an empty combination.
func TestCombineEmptyRows(t *testing.T) {
	for _, rows := range [][][]byte{{nil}, {{}}, {nil, {}}, {{}, nil, {}}} {
		c := bytes.Repeat([]byte{3}, len(rows))
		checkCombine(t, c, rows, nil)
	}
}

// P6.3: every reason for which Combine returns ErrArg, also several of them.
func TestCombineErrors(t *testing.T) {
	for _, e := range []struct {
		name string
		c    []byte
		rows [][]byte
	}{
		{"nil and nil", nil, nil}, {"no factor and no row", []byte{}, [][]byte{}}, {"no factor and a row", nil, [][]byte{{1}}}, {"no factor and an empty row", []byte{}, [][]byte{{}}}, {"no factor and rows of different lengths", nil, [][]byte{{1}, {}}},
		{"a factor and no row", []byte{1}, nil}, {"the factor 0 and no row", []byte{0}, [][]byte{}}, {"two factors and a row", []byte{1, 2}, [][]byte{{1, 2}}}, {"two factors and a row that is nil", []byte{1, 2}, [][]byte{nil}},
		{"more rows than factors", []byte{1}, [][]byte{{1}, {2}}}, {"more empty rows than factors", []byte{1}, [][]byte{nil, nil}}, {"many rows and two factors", []byte{1, 2}, zeros(300, 3)}, {"a factor less than rows, in which a row differs", []byte{1, 2}, [][]byte{{1}, {2}, {}}},
		{"a shorter row", []byte{1, 2}, [][]byte{{1, 2}, {1}}}, {"a longer row", []byte{1, 2}, [][]byte{{1}, {1, 2}}}, {"an empty row behind", []byte{1, 2}, [][]byte{{1}, nil}}, {"an empty row in front", []byte{1, 2}, [][]byte{{}, {1}}},
		{"a last row that is longer", []byte{1, 2, 3}, [][]byte{{1, 2}, {3, 4}, {5, 6, 7}}}, {"a last row that is shorter", []byte{1, 2, 3}, [][]byte{{1, 2}, {3, 4}, {5}}}, {"a middle row that is shorter", []byte{1, 2, 3}, [][]byte{{1, 2}, {3}, {5, 6}}},
		{"a longer row with the factor 0", []byte{1, 0}, [][]byte{{1}, {1, 2}}}, {"a shorter row with the factor 0", []byte{0, 0}, [][]byte{{1, 2}, {0}}},
	} {
		if got, err := field.Combine(e.c, e.rows); err != api.ErrArg || len(got) != 0 {
			t.Errorf("Combine of %s = %v, %d", e.name, got, err)
		}
	}
}
