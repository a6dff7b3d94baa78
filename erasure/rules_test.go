package erasure_test

import (
	"bytes"
	"math/rand"
	"slices"
	"testing"

	"drydock/api"
	"drydock/erasure"
)

// function is a function of rows. Its result is a list of rows.
type function struct {
	name string
	call func(rows [][]byte) ([][]byte, api.Errno)
}

// functions returns calls for a code. The rows that Decode and Rebuild are given have the indices of an order.
func functions(c code, order []int) []function {
	out := []function{
		{"Encode", func(rows [][]byte) ([][]byte, api.Errno) { return erasure.Encode(c.k, c.m, rows) }},
		{"Decode", func(rows [][]byte) ([][]byte, api.Errno) { return erasure.Decode(c.k, c.m, indexed(rows, order)) }},
		{"Split", func(rows [][]byte) ([][]byte, api.Errno) { return erasure.Split(c.k, 3, first(rows)) }},
	}
	for index := range c.k + c.m {
		out = append(out, function{"Rebuild", func(rows [][]byte) ([][]byte, api.Errno) {
			row, err := erasure.Rebuild(c.k, c.m, indexed(rows, order), index)
			return [][]byte{row}, err
		}})
	}
	for n := range 7 {
		out = append(out, function{"Join", func(rows [][]byte) ([][]byte, api.Errno) {
			row, err := erasure.Join(rows, n)
			return [][]byte{row}, err
		}})
	}
	return out
}

// indexed returns the rows themselves, with the indices of an order.
func indexed(rows [][]byte, order []int) []api.Fragment {
	out := make([]api.Fragment, len(rows))
	for i, row := range rows {
		out[i] = api.Fragment{Index: order[i%len(order)], Data: row}
	}
	return out
}

// first returns the first row, or nil if there is none.
func first(rows [][]byte) []byte {
	if len(rows) == 0 {
		return nil
	}
	return rows[0]
}

// Rules: arguments are neither changed nor kept, results share no memory, and the same arguments give the same result.
func TestRules(t *testing.T) {
	r := rand.New(rand.NewSource(24))
	reached := map[string]bool{}
	for _, c := range codes() {
		order := r.Perm(c.k + c.m)
		word := randomWord(r, c, 3)
		var rows [][]byte
		for _, index := range order {
			rows = append(rows, word[index])
		}
		broken := cloned(rows)
		broken[len(broken)-1][0]++
		lists := [][][]byte{word[:c.k], rows, rows[:c.k], rows[:c.k-1], broken, random(r, c.k, 1), make([][]byte, c.k), {{1, 2}, {3}}, {{1, 2, 3, 4}, {1, 2, 3, 4}}, nil, random(r, 1, 30)}
		for _, list := range lists {
			for _, f := range functions(c, order) {
				checkRules(t, f, list, reached)
			}
		}
	}
	if want := []string{"Decode", "Encode", "Join", "Rebuild", "Split"}; len(reached) != len(want) {
		t.Errorf("only %v succeeded, want %v", reached, want)
	}
}

// checkRules checks the rules for one call.
func checkRules(t *testing.T, f function, rows [][]byte, reached map[string]bool) {
	t.Helper()
	given := cloned(rows)
	one, err := f.call(given)
	if !same(given, rows) || !spareIsClean(given) {
		t.Errorf("%s changes an argument", f.name)
	}
	two, again := f.call(rows)
	if !same(one, two) || err != again {
		t.Errorf("%s returns %v and then %v", f.name, one, two)
	}
	if err == api.OK {
		reached[f.name] = true
	}
	kept := cloned(two)
	checkApart(t, f.name, one, given)
	three, _ := f.call(rows)
	if !same(two, kept) || !same(three, kept) {
		t.Errorf("%s has kept an argument or a result", f.name)
	}
}

// checkApart reports an error if any two rows of the lists share memory, with what lies behind them. It overwrites them.
func checkApart(t *testing.T, name string, lists ...[][]byte) {
	t.Helper()
	var rows [][]byte
	for _, list := range lists {
		for _, row := range list {
			rows = append(rows, row[:cap(row)])
		}
	}
	for i, row := range rows {
		for x := range row {
			row[x] = byte(i)
		}
	}
	for i, row := range rows {
		for _, b := range row {
			if b != byte(i) {
				t.Errorf("%s: rows share memory", name)
				return
			}
		}
	}
}

// Rules: the list that is given to Decode and Rebuild is left as it was, with its order.
func TestFragmentsLeft(t *testing.T) {
	r := rand.New(rand.NewSource(25))
	for _, c := range codes() {
		word := randomWord(r, c, 2)
		order := r.Perm(len(word))
		have, want := pick(word, order...), pick(word, order...)
		have = append(have, api.Fragment{Index: 99})[:len(word)]
		erasure.Decode(c.k, c.m, have)
		erasure.Rebuild(c.k, c.m, have, 0)
		if behind := have[:len(word)+1][len(word)]; behind.Index != 99 || behind.Data != nil {
			t.Errorf("something was written behind the list: %v", behind)
		}
		if !slices.EqualFunc(have, want, func(a, b api.Fragment) bool { return a.Index == b.Index && bytes.Equal(a.Data, b.Data) }) {
			t.Errorf("the list %v became %v", want, have)
		}
	}
}

// Rules: rows of an argument that share memory with each other are read as they are, and the results are apart.
func TestSharedRows(t *testing.T) {
	both := []byte{1, 2, 3, 4, 5}
	rows := [][]byte{both[0:2], both[1:3], both[0:2]}
	want := codeWord(code{3, 2}, rows)
	got, err := erasure.Encode(3, 2, rows)
	if err != api.OK || !same(got, want) {
		t.Errorf("Encode = %v, %d, want %v", got, err, want)
	}
	have := []api.Fragment{{Index: 2, Data: both[0:2]}, {Index: 0, Data: both[0:2]}, {Index: 1, Data: both[1:3]}}
	data, err := erasure.Decode(3, 2, have)
	if err != api.OK || !same(data, rows) {
		t.Errorf("Decode = %v, %d, want %v", data, err, rows)
	}
	checkApart(t, "Encode", got)
	checkApart(t, "Decode", data)
	if !bytes.Equal(both, []byte{1, 2, 3, 4, 5}) {
		t.Errorf("the rows are changed: %v", both)
	}
}

// Ways: what is appended to the data rows that Decode returns does not lie in the rows behind them.
func TestDecodeIsCut(t *testing.T) {
	r := rand.New(rand.NewSource(26))
	for _, c := range codes() {
		word := randomWord(r, c, 2)
		data, err := erasure.Decode(c.k, c.m, pick(word, upTo(c.k)...))
		if err != api.OK || cap(data) != c.k {
			t.Errorf("Decode returns %d rows of %d, %d", len(data), cap(data), err)
		}
		one := append(data, []byte{1})
		_ = append(data, []byte{2})
		if one[c.k][0] != 1 {
			t.Errorf("two rows that were appended are one")
		}
		for _, row := range data {
			_ = append(row, 77, 78, 79)
		}
		if !same(data, word[:c.k]) {
			t.Errorf("a row reaches into another one")
		}
	}
}
