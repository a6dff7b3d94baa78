package erasure_test

import (
	"math/rand"
	"slices"
	"testing"

	"drydock/api"
	"drydock/erasure"
)

// P7.3 and P7.4: numbers that are no code, with rows that are right otherwise, and with every other error.
func TestNoCode(t *testing.T) {
	rows := [][]byte{{1}, {2}, {3}, {4}, {5}, {6}, {7}, {8}, {9}}
	lists := [][]api.Fragment{nil, pick(rows, 0), pick(rows, 0, 0), pick(rows, 0, 1), {{Index: -1}}, {{Index: 0, Data: []byte{1}}, {Index: 1, Data: []byte{1, 2}}}, {{Index: 300}, {Index: 300}}}
	for n := range 10 {
		lists = append(lists, pick(rows, upTo(n)...))
	}
	for _, c := range noCodes() {
		for _, have := range lists {
			if got, err := erasure.Decode(c.k, c.m, have); err != api.ErrArg || len(got) != 0 {
				t.Errorf("Decode(%d, %d, %v) = %v, %d", c.k, c.m, have, got, err)
			}
			for _, index := range append(outside(1), upTo(13)...) {
				if got, err := erasure.Rebuild(c.k, c.m, have, index); err != api.ErrArg || len(got) != 0 {
					t.Errorf("Rebuild(%d, %d, %v, %d) = %v, %d", c.k, c.m, have, index, got, err)
				}
			}
		}
	}
}

// P7.3: an Index outside of the code word, in every place, before every other error.
func TestWrongIndex(t *testing.T) {
	r := rand.New(rand.NewSource(12))
	for _, c := range codes() {
		n := c.k + c.m
		word := randomWord(r, c, 2)
		for _, index := range outside(n) {
			for place := range n {
				have := pick(word, upTo(n)...)
				have[place].Index = index
				checkRefused(t, "an index outside", c, have, api.ErrArg)
			}
			wrong := api.Fragment{Index: index, Data: []byte{1, 2}}
			checkRefused(t, "one row more", c, append(pick(word, upTo(n)...), wrong), api.ErrArg)
			checkRefused(t, "too few rows", c, []api.Fragment{wrong}, api.ErrArg)
			checkRefused(t, "twice", c, []api.Fragment{wrong, wrong}, api.ErrArg)
			checkRefused(t, "behind an index that occurs twice", c, append(pick(word, 0, 0), wrong), api.ErrArg)
			checkRefused(t, "in front of an index that occurs twice", c, append([]api.Fragment{wrong}, pick(word, 0, 0)...), api.ErrArg)
			wrong.Data = []byte{1}
			checkRefused(t, "with another length", c, append(pick(word, upTo(c.k)...), wrong), api.ErrArg)
		}
	}
}

// P7.3: an Index that occurs twice, in every pair of places.
func TestIndexTwice(t *testing.T) {
	r := rand.New(rand.NewSource(13))
	for _, c := range codes() {
		n := c.k + c.m
		word := randomWord(r, c, 2)
		for first := range n {
			for second := range n {
				if first == second {
					continue
				}
				have := pick(word, r.Perm(n)...)
				have[second].Index = have[first].Index
				checkRefused(t, "an index twice", c, have, api.ErrDuplicate)
				have[second] = have[first]
				checkRefused(t, "a row twice", c, have, api.ErrDuplicate)
			}
			have := append(pick(word, r.Perm(n)...), pick(word, first)...)
			checkRefused(t, "all rows and one again", c, have, api.ErrDuplicate)
			have[n].Data[0] ^= 1
			checkRefused(t, "all rows and a wrong one", c, have, api.ErrDuplicate)
		}
		checkRefused(t, "all rows twice", c, append(pick(word, r.Perm(n)...), pick(word, r.Perm(n)...)...), api.ErrDuplicate)
		checkRefused(t, "a row 300 times", c, slices.Repeat(pick(word, n-1), 300), api.ErrDuplicate)
	}
}

// P7.3: an Index that occurs twice comes before too few rows and before rows that do not agree.
func TestIndexTwiceFirst(t *testing.T) {
	for _, c := range codes() {
		n := c.k + c.m
		word := randomWord(rand.New(rand.NewSource(14)), c, 2)
		for index := range n {
			twice := pick(word, index, index)
			checkRefused(t, "two rows", c, twice, api.ErrDuplicate)
			twice[1].Data = []byte{1}
			checkRefused(t, "two lengths", c, twice, api.ErrDuplicate)
			have := append(pick(word, upTo(n)...), api.Fragment{Index: index})
			have[0].Data = []byte{1, 2, 3}
			checkRefused(t, "three lengths", c, have, api.ErrDuplicate)
		}
	}
}

// P7.3: every set of too few rows, also none, and those of different lengths.
func TestTooFew(t *testing.T) {
	r := rand.New(rand.NewSource(15))
	for _, c := range codes() {
		word := randomWord(r, c, 2)
		checkRefused(t, "nil", c, nil, api.ErrShort)
		checkRefused(t, "no rows", c, []api.Fragment{}, api.ErrShort)
		for size := range c.k {
			for _, set := range sets(c.k+c.m, size) {
				r.Shuffle(size, func(i, j int) { set[i], set[j] = set[j], set[i] })
				have := pick(word, set...)
				checkRefused(t, "too few", c, have, api.ErrShort)
				if size > 0 {
					have[0].Data = []byte{1, 2, 3}
					checkRefused(t, "too few, of two lengths", c, have, api.ErrShort)
				}
			}
		}
		if c.k > 1 {
			checkRefused(t, "too few empty rows", c, pick(make([][]byte, c.k), upTo(c.k-1)...), api.ErrShort)
		}
	}
}

// P7.3: rows of which one does not agree, for every set of more than k rows and each of them.
func TestOneDoesNotAgree(t *testing.T) {
	r := rand.New(rand.NewSource(16))
	for _, c := range codes() {
		n := c.k + c.m
		word := randomWord(r, c, 3)
		for size := c.k + 1; size <= n; size++ {
			for _, set := range sets(n, size) {
				r.Shuffle(size, func(i, j int) { set[i], set[j] = set[j], set[i] })
				for place := range set {
					have := pick(word, set...)
					have[place].Data[r.Intn(3)] ^= byte(1 + r.Intn(255))
					if got, err := erasure.Decode(c.k, c.m, have); err != api.ErrMismatch || len(got) != 0 {
						t.Errorf("Decode(%d, %d, %v) = %v, %d", c.k, c.m, have, got, err)
					}
				}
			}
		}
		if c.m > 0 {
			have := pick(word, upTo(n)...)
			have[n-1].Data[0]++
			checkRefused(t, "the last row", c, have, api.ErrMismatch)
			have = pick(word, upTo(n)...)
			have[0].Data, have[1].Data = have[1].Data, have[0].Data
			checkRefused(t, "two rows exchanged", c, have, api.ErrMismatch)
		}
	}
}

// P7.3: rows of different lengths, k of them or more, in every place.
func TestDifferentLengths(t *testing.T) {
	r := rand.New(rand.NewSource(17))
	for _, c := range codes() {
		n := c.k + c.m
		word := randomWord(r, c, 2)
		for size := max(c.k, 2); size <= n; size++ {
			order := r.Perm(n)[:size]
			for place := range size {
				have := pick(word, order...)
				row := have[place].Data
				for _, other := range [][]byte{nil, {}, row[:1], append(row, 0), append(row, 1), append(row, row...), make([]byte, 258)} {
					have[place].Data = other
					checkRefused(t, "another length", c, have, api.ErrMismatch)
				}
				zeros := pick(make([][]byte, n), order...)
				zeros[place].Data = []byte{0}
				checkRefused(t, "a zero byte and empty rows", c, zeros, api.ErrMismatch)
			}
		}
	}
}
