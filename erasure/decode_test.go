package erasure_test

import (
	"math/rand"
	"slices"
	"testing"

	"drydock/api"
	"drydock/erasure"
)

// P7.3, P7.4 and P7.6: every set of k rows or more, in ascending order, determines the data and every other row.
func TestEverySet(t *testing.T) {
	r := rand.New(rand.NewSource(6))
	for _, c := range codes() {
		word := randomWord(r, c, 3)
		for size := c.k; size <= c.k+c.m; size++ {
			for _, set := range sets(c.k+c.m, size) {
				checkWord(t, c, pick(word, set...), word)
			}
		}
	}
}

// P7.3 and P7.4: every set of k rows, in every order.
func TestEveryOrder(t *testing.T) {
	r := rand.New(rand.NewSource(7))
	checked := 0
	for _, c := range codes() {
		word := randomWord(r, c, 2)
		for _, set := range sets(c.k+c.m, c.k) {
			for _, order := range orders(set) {
				have := pick(word, order...)
				checkDecoded(t, c, have, word)
				if checked%8 == 0 {
					checkRebuilt(t, c, have, word, r.Intn(len(word)))
				}
				checked++
			}
		}
	}
	if checked < 30000 {
		t.Errorf("only %d orders were checked", checked)
	}
}

// P7.3 and P7.4: more rows than k, in any order.
func TestManyRows(t *testing.T) {
	r := rand.New(rand.NewSource(8))
	for _, c := range codes() {
		word := randomWord(r, c, 2)
		for range 40 {
			order := r.Perm(len(word))[:c.k+r.Intn(c.m+1)]
			checkWord(t, c, pick(word, order...), word)
		}
	}
}

// P7.3 and P7.4: rows of many lengths, also empty ones.
func TestLengths(t *testing.T) {
	r := rand.New(rand.NewSource(9))
	for _, c := range codes() {
		for _, length := range []int{0, 1, 2, 16, 255, 256, 257, 1000} {
			word := randomWord(r, c, length)
			order := r.Perm(len(word))
			checkDecoded(t, c, pick(word, order[:c.k]...), word)
			checkDecoded(t, c, pick(word, order...), word)
			checkRebuilt(t, c, pick(word, order[:c.k]...), word, order[len(order)-1])
		}
		empty := make([][]byte, c.k+c.m)
		checkWord(t, c, pick(empty, r.Perm(c.k+c.m)...), empty)
	}
}

// P7.3: any k rows are rows of a code word, which is checked row by row.
func TestAnyRows(t *testing.T) {
	r := rand.New(rand.NewSource(10))
	for _, c := range codes() {
		for range 30 {
			rows := random(r, c.k+c.m, 4)
			have := pick(rows, r.Perm(c.k + c.m)[:c.k]...)
			data, err := erasure.Decode(c.k, c.m, have)
			if err != api.OK || len(data) != c.k {
				t.Errorf("Decode(%d, %d, %v) = %v, %d", c.k, c.m, have, data, err)
				continue
			}
			word := codeWord(c, data)
			for _, f := range have {
				if !slices.Equal(word[f.Index], f.Data) {
					t.Errorf("Decode(%d, %d, %v) = %v: row %d is %v", c.k, c.m, have, data, f.Index, word[f.Index])
				}
			}
		}
	}
}

// P7.3: more than k rows of one byte each, compared with all code words there are.
func TestAllCodeWords(t *testing.T) {
	r := rand.New(rand.NewSource(11))
	found := [2]int{}
	for _, c := range []code{{1, 1}, {1, 2}, {1, 4}, {2, 1}} {
		for range 40 {
			word := randomWord(r, c, 1)
			have := pick(word, r.Perm(len(word))[:c.k+1+r.Intn(c.m)]...)
			have[r.Intn(len(have))].Data[0] ^= byte(r.Intn(2) * r.Intn(256))
			words := wordsWith(c, have)
			if len(words) > 1 {
				t.Fatalf("%v are rows of %d code words", have, len(words))
			}
			found[len(words)]++
			if len(words) == 1 {
				checkWord(t, c, have, words[0])
			} else {
				checkRefused(t, "no code word", c, have, api.ErrMismatch)
			}
		}
	}
	if found[0] < 20 || found[1] < 20 {
		t.Errorf("%d lists of rows without a code word, %d with one", found[0], found[1])
	}
}

// wordsWith returns all code words of one column that have the given rows.
func wordsWith(c code, have []api.Fragment) [][][]byte {
	var factors [4][6]byte
	for j := range factors {
		for i := range factors[j] {
			factors[j][i] = coefficient(j, i)
		}
	}
	var out [][][]byte
	for n := range 1 << (8 * c.k) {
		word := make([][]byte, c.k+c.m)
		for i := range c.k {
			word[i] = []byte{byte(n >> (8 * i))}
		}
		for j := range c.m {
			word[c.k+j] = []byte{0}
			for i := range c.k {
				word[c.k+j][0] ^= product(factors[j][i], word[i][0])
			}
		}
		if !slices.ContainsFunc(have, func(f api.Fragment) bool { return f.Data[0] != word[f.Index][0] }) {
			out = append(out, word)
		}
	}
	return out
}

// P7.3: the example of the chapter, and a code without rows behind the data.
func TestDecodeExamples(t *testing.T) {
	word := codeWord(code{2, 1}, [][]byte{{1, 2, 3}, {4, 5, 6}})
	checkWord(t, code{2, 1}, pick(word, 0, 2), word)
	checkWord(t, code{2, 1}, []api.Fragment{{Index: 0, Data: []byte{1, 0, 1}}, {Index: 2, Data: []byte{0x1b, 0x54, 0x4f}}}, [][]byte{{1, 0, 1}, {0, 1, 1}, {0x1b, 0x54, 0x4f}})
	checkWord(t, code{1, 1}, []api.Fragment{{Index: 1, Data: []byte{0x1b, 0}}}, [][]byte{{1, 0}, {0x1b, 0}})
	data := [][]byte{{1}, {2}, {3}}
	checkWord(t, code{3, 0}, pick(data, 0, 1, 2), data)
	checkWord(t, code{3, 0}, pick(data, 2, 0, 1), data)
	checkWord(t, code{1, 0}, pick(data, 0), data[:1])
}
