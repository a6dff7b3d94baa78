package erasure

import (
	"bytes"

	"drydock/api"
	"drydock/field"
)

// complete returns the code word that has the rows of have.
func complete(k, m int, have []api.Fragment) ([][]byte, api.Errno) {
	if !isCode(k, m) || !areRows(have, k+m) {
		return nil, api.ErrArg
	}
	if oneTwice(have) {
		return nil, api.ErrDuplicate
	}
	if len(have) < k {
		return nil, api.ErrShort
	}
	rows := contents(have)
	if !haveOneLength(rows) {
		return nil, api.ErrMismatch
	}
	word := extend(solve(have[:k], rows[:k]), m)
	for i, f := range have {
		if !bytes.Equal(word[f.Index], rows[i]) {
			return nil, api.ErrMismatch
		}
	}
	return word, api.OK
}

// areRows reports whether every Index is one of a code word of n rows.
func areRows(have []api.Fragment, n int) bool {
	for _, f := range have {
		if !isRow(f.Index, n) {
			return false
		}
	}
	return true
}

// oneTwice reports whether an Index occurs twice.
func oneTwice(have []api.Fragment) bool {
	var seen [api.MaxFragments]bool
	for _, f := range have {
		if seen[f.Index] {
			return true
		}
		seen[f.Index] = true
	}
	return false
}

// contents returns the rows themselves. They are still the caller's.
func contents(have []api.Fragment) [][]byte {
	rows := make([][]byte, len(have))
	for i, f := range have {
		rows[i] = f.Data
	}
	return rows
}

// solve returns the data of the code word that has the given rows, which are as many as the data rows.
func solve(have []api.Fragment, rows [][]byte) [][]byte {
	k := len(have)
	matrix := make([][]byte, k)
	for i, f := range have {
		matrix[i] = factors(k, f.Index)
	}
	// There is always an inverse: without the unit rows and their columns a square submatrix of the coefficients remains.
	inverse, _ := field.Invert(matrix)
	data := make([][]byte, k)
	for i, c := range inverse {
		data[i], _ = field.Combine(c, rows)
	}
	return data
}
