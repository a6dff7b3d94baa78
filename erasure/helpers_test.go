package erasure_test

import (
	"bytes"
	"math"
	"math/bits"
	"math/rand"
	"slices"
	"testing"

	"drydock/api"
	"drydock/erasure"
)

// The tests compute with polynomials apart from the program: products are written out coefficient by coefficient, inverses are found by search, and code words are summed row by row.

const modulus = 1<<8 | 1<<4 | 1<<3 | 1<<2 | 1

// product returns the product of two elements.
func product(a, b byte) byte {
	p := 0
	for i := range 8 {
		if b>>i&1 != 0 {
			p ^= int(a) << i
		}
	}
	for degree := 14; degree >= 8; degree-- {
		if p>>degree&1 != 0 {
			p ^= modulus << (degree - 8)
		}
	}
	return byte(p)
}

// coefficient returns the inverse of 128 + j exclusive or i.
func coefficient(j, i int) byte {
	for c := range 256 {
		if product(byte(c), byte((128+j)^i)) == 1 {
			return byte(c)
		}
	}
	panic("an element without an inverse")
}

// code is a pair of numbers of data rows and of rows behind them.
type code struct{ k, m int }

// codes returns all codes.
func codes() []code {
	most := []int{-1, 4, 4, 4, 4, 3, 2}
	var out []code
	for k, top := range most {
		for m := 0; m <= top; m++ {
			out = append(out, code{k, m})
		}
	}
	return out
}

// noCodes returns pairs of numbers that are no codes: all small ones, and some with large numbers.
func noCodes() []code {
	var out []code
	add := func(k, m int) {
		if c := (code{k, m}); !slices.Contains(codes(), c) {
			out = append(out, c)
		}
	}
	for k := -9; k <= 12; k++ {
		for m := -12; m <= 12; m++ {
			add(k, m)
		}
	}
	for _, large := range []int{math.MinInt, math.MinInt + 1, math.MinInt + 3, -1 << 32, 255, 256, 257, 258, 1 << 32, 1<<32 + 1, 1<<32 + 2, 1 << 62, math.MaxInt - 1, math.MaxInt} {
		for small := -1; small <= 7; small++ {
			add(large, small)
			add(small, large)
		}
		add(large, large)
		add(large, -large)
		add(large, 2-large)
		add(8-large, large)
	}
	return out
}

// codeWord returns the code word with these data.
func codeWord(c code, data [][]byte) [][]byte {
	out := cloned(data)
	for j := range c.m {
		row := make([]byte, len(data[0]))
		for i, other := range data {
			factor := coefficient(j, i)
			for x, b := range other {
				row[x] ^= product(factor, b)
			}
		}
		out = append(out, row)
	}
	return out
}

// random returns rows of any bytes.
func random(r *rand.Rand, rows, length int) [][]byte {
	out := make([][]byte, rows)
	for i := range out {
		out[i] = make([]byte, length)
		r.Read(out[i])
	}
	return out
}

// randomWord returns a code word.
func randomWord(r *rand.Rand, c code, length int) [][]byte {
	return codeWord(c, random(r, c.k, length))
}

// sets returns all sets of size numbers from 0 to n - 1, in ascending order each.
func sets(n, size int) [][]int {
	var out [][]int
	for mask := range uint(1) << n {
		if bits.OnesCount(mask) != size {
			continue
		}
		var set []int
		for i := range n {
			if mask>>i&1 != 0 {
				set = append(set, i)
			}
		}
		out = append(out, set)
	}
	return out
}

// orders returns the list in all orders.
func orders(list []int) [][]int {
	if len(list) == 0 {
		return [][]int{nil}
	}
	var out [][]int
	for i, x := range list {
		rest := slices.Delete(slices.Clone(list), i, i+1)
		for _, order := range orders(rest) {
			out = append(out, append([]int{x}, order...))
		}
	}
	return out
}

// pick returns copies of the rows of a code word with these indices.
func pick(word [][]byte, indices ...int) []api.Fragment {
	var out []api.Fragment
	for _, index := range indices {
		out = append(out, api.Fragment{Index: index, Data: bytes.Clone(word[index])})
	}
	return out
}

// upTo returns the numbers from 0 to n - 1.
func upTo(n int) []int {
	out := make([]int, n)
	for i := range out {
		out[i] = i
	}
	return out
}

// outside returns numbers that are not from 0 to n - 1.
func outside(n int) []int {
	return []int{-1, -2, -n, -256, -1 << 32, math.MinInt, math.MinInt + 1, n, n + 1, 255, 256, 257, 1 << 32, 1<<32 + 1, 1 << 62, math.MaxInt - 1, math.MaxInt}
}

// cloned returns a copy of the rows, with spare memory behind every list.
func cloned(a [][]byte) [][]byte {
	out := make([][]byte, len(a), len(a)+1)
	for i, row := range a {
		out[i] = append(make([]byte, 0, len(row)+1), row...)
	}
	return out
}

// spareIsClean reports whether nothing was written behind the lists of a copy that cloned has made.
func spareIsClean(a [][]byte) bool {
	for _, row := range a {
		if row[:len(row)+1][len(row)] != 0 {
			return false
		}
	}
	return a[:len(a)+1][len(a)] == nil
}

// same reports whether two lists of rows are equal.
func same(a, b [][]byte) bool {
	return slices.EqualFunc(a, b, bytes.Equal)
}

// checkDecoded compares a result of Decode with the data of a code word.
func checkDecoded(t *testing.T, c code, have []api.Fragment, word [][]byte) {
	t.Helper()
	if got, err := erasure.Decode(c.k, c.m, have); err != api.OK || !same(got, word[:c.k]) {
		t.Errorf("Decode(%d, %d, %v) = %v, %d, want %v", c.k, c.m, have, got, err, word[:c.k])
	}
}

// checkRebuilt compares a result of Rebuild with a row of a code word.
func checkRebuilt(t *testing.T, c code, have []api.Fragment, word [][]byte, index int) {
	t.Helper()
	if got, err := erasure.Rebuild(c.k, c.m, have, index); err != api.OK || !bytes.Equal(got, word[index]) {
		t.Errorf("Rebuild(%d, %d, %v, %d) = %v, %d, want %v", c.k, c.m, have, index, got, err, word[index])
	}
}

// checkWord checks that the given rows determine a code word: the data and every row of it.
func checkWord(t *testing.T, c code, have []api.Fragment, word [][]byte) {
	t.Helper()
	checkDecoded(t, c, have, word)
	for index := range word {
		checkRebuilt(t, c, have, word, index)
	}
	checkNoIndex(t, c, have)
}

// checkNoIndex checks that Rebuild refuses every index outside of the code word, whatever rows are given.
func checkNoIndex(t *testing.T, c code, have []api.Fragment) {
	t.Helper()
	for _, index := range outside(c.k + c.m) {
		if got, err := erasure.Rebuild(c.k, c.m, have, index); err != api.ErrArg || len(got) != 0 {
			t.Errorf("Rebuild(%d, %d, %v, %d) = %v, %d, want %d", c.k, c.m, have, index, got, err, api.ErrArg)
		}
	}
}

// checkRefused checks the error of Decode, and that Rebuild has the same one for every row of the code word and ErrArg for others.
func checkRefused(t *testing.T, name string, c code, have []api.Fragment, want api.Errno) {
	t.Helper()
	if got, err := erasure.Decode(c.k, c.m, have); err != want || len(got) != 0 {
		t.Errorf("%s: Decode(%d, %d, %v) = %v, %d, want %d", name, c.k, c.m, have, got, err, want)
	}
	for index := range c.k + c.m {
		if got, err := erasure.Rebuild(c.k, c.m, have, index); err != want || len(got) != 0 {
			t.Errorf("%s: Rebuild(%d, %d, %v, %d) = %v, %d, want %d", name, c.k, c.m, have, index, got, err, want)
		}
	}
	checkNoIndex(t, c, have)
}
