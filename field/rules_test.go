package field_test

import (
	"bytes"
	"math/rand"
	"testing"

	"drydock/api"
	"drydock/field"
)

// function is a function of rows. Its result is a list of rows.
type function struct {
	name string
	call func(c []byte, rows [][]byte) [][]byte
}

func functions() []function {
	return []function{
		{"Combine", func(c []byte, rows [][]byte) [][]byte { out, _ := field.Combine(c, rows); return [][]byte{out} }},
		{"Invert", func(_ []byte, rows [][]byte) [][]byte { out, _ := field.Invert(rows); return out }},
	}
}

// Rules: arguments are neither changed nor kept, results share no memory, and the same arguments give the same result.
func TestRules(t *testing.T) {
	r := rand.New(rand.NewSource(8))
	list := [][][]byte{unit(1), unit(3), zeros(2, 2), {{0, 1}, {1, 0}}, {{0, 2, 3}, {0, 0, 1}, {9, 9, 9}}, {{1, 2}, {1, 2}}, {{1, 2, 3}}, {{1}, {2}, {3}}, {{}, {}}, {{1, 2}, {3}}, {{0}}, nil, unit(33)}
	for n := 1; n <= 32; n++ {
		list = append(list, regular(r, n), random(r, n, 1+r.Intn(5)))
	}
	for _, a := range list {
		for _, f := range functions() {
			checkRules(t, f, random(r, 1, len(a))[0], a)
			checkRules(t, f, bytes.Repeat([]byte{1}, len(a)), a)
		}
	}
}

// checkRules checks the rules for one call.
func checkRules(t *testing.T, f function, c []byte, a [][]byte) {
	t.Helper()
	givenC, givenA := cloned([][]byte{c}), cloned(a)
	first := f.call(givenC[0], givenA)
	if !same(givenC, [][]byte{c}) || !same(givenA, a) || !spareIsClean(givenC) || !spareIsClean(givenA) {
		t.Errorf("%s changes an argument", f.name)
	}
	second := f.call(c, a)
	if !same(first, second) {
		t.Errorf("%s returns %v and then %v", f.name, first, second)
	}
	kept := cloned(second)
	checkApart(t, f.name, first, givenC, givenA)
	if !same(second, kept) || !same(f.call(c, a), kept) {
		t.Errorf("%s has kept an argument or a result", f.name)
	}
}

// checkApart reports an error if any two rows of the lists share memory, with what lies behind them. It overwrites them.
func checkApart(t *testing.T, name string, lists ...[][]byte) {
	t.Helper()
	var rows [][]byte
	for _, list := range lists {
		for _, row := range list {
			rows = append(rows, row[:cap(row)])
		}
	}
	for i, row := range rows {
		for k := range row {
			row[k] = byte(i)
		}
	}
	for i, row := range rows {
		for _, x := range row {
			if x != byte(i) {
				t.Errorf("%s: rows share memory", name)
				return
			}
		}
	}
}

// Rules: a combination of one row with the factor 1 is equal to the row, but new memory.
func TestCombineIsNew(t *testing.T) {
	row := []byte{1, 2, 3}
	got, err := field.Combine([]byte{1}, [][]byte{row})
	if err != api.OK || !bytes.Equal(got, row) {
		t.Fatalf("Combine = %v, %d", got, err)
	}
	got[0] = 9
	if row[0] != 1 {
		t.Errorf("the combination shares memory with the row")
	}
	row[1] = 9
	if got[1] != 2 {
		t.Errorf("the row shares memory with the combination")
	}
}

// Rules: rows of an argument that share memory with each other are left as they were.
func TestSharedRows(t *testing.T) {
	both := []byte{1, 2, 3, 4, 5}
	rows := [][]byte{both[0:2], both[1:3]}
	got, err := field.Combine([]byte{2, 1}, rows)
	if want := []byte{0, 7}; err != api.OK || !bytes.Equal(got, want) {
		t.Errorf("Combine = %v, %d, want %v", got, err, want)
	}
	checkInverted(t, rows)
	checkNotInverted(t, "one row twice", [][]byte{both[:2], both[:2]}, api.ErrSingular)
	if !bytes.Equal(both, []byte{1, 2, 3, 4, 5}) {
		t.Errorf("the rows are changed: %v", both)
	}
}

// Rules: a longer row of an inverse does not reach into the next one.
func TestRowsApart(t *testing.T) {
	m := regular(rand.New(rand.NewSource(9)), 5)
	got, _ := field.Invert(m)
	want := cloned(got)
	for _, row := range got {
		_ = append(row, 77, 78, 79)
	}
	if !same(got, want) {
		t.Errorf("a row reaches into another one")
	}
}
