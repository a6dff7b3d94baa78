package linear_test

import (
	"math/big"
	"math/rand"
	"slices"
	"testing"

	"drydock/api"
	"drydock/linear"
)

// function is a function of a matrix and of another argument, or of one of them only. What it returns is a matrix.
type function struct {
	name string
	call func(a, b [][]api.Frac) [][]api.Frac
}

func functions() []function {
	return []function{
		{"Identity", func(a, _ [][]api.Frac) [][]api.Frac { out, _ := linear.Identity(len(a)); return out }},
		{"Mul", func(a, b [][]api.Frac) [][]api.Frac { out, _ := linear.Mul(a, b); return out }},
		{"Apply", func(a, b [][]api.Frac) [][]api.Frac { out, _ := linear.Apply(a, b[0]); return [][]api.Frac{out} }},
		{"Solve", func(a, b [][]api.Frac) [][]api.Frac { out, _ := linear.Solve(a, b[0]); return [][]api.Frac{out} }},
		{"Invert", func(a, _ [][]api.Frac) [][]api.Frac { out, _ := linear.Invert(a); return out }},
		{"Det", func(a, _ [][]api.Frac) [][]api.Frac { out, _ := linear.Det(a); return [][]api.Frac{{out}} }},
		{"Rank", func(a, _ [][]api.Frac) [][]api.Frac { linear.Rank(a); return nil }},
		{"Shape", func(a, _ [][]api.Frac) [][]api.Frac { linear.Shape(a); return nil }},
	}
}

// cloned returns a copy of a that shares no memory with it, with spare memory behind every list.
func cloned(a [][]api.Frac) [][]api.Frac {
	out := make([][]api.Frac, len(a), len(a)+1)
	for i, row := range a {
		out[i] = make([]api.Frac, len(row), len(row)+1)
		for j, x := range row {
			out[i][j] = api.Frac{Neg: x.Neg, Num: append(slices.Grow(api.Nat{}, len(x.Num)+1), x.Num...), Den: append(slices.Grow(api.Nat{}, len(x.Den)+1), x.Den...)}
		}
	}
	return out
}

// spareIsClean reports whether nothing was written behind the lists of a copy that cloned has made.
func spareIsClean(a [][]api.Frac) bool {
	for _, row := range a {
		for _, x := range row {
			if x.Num[:len(x.Num)+1][len(x.Num)] != 0 || x.Den[:len(x.Den)+1][len(x.Den)] != 0 {
				return false
			}
		}
		if !identical(row[:len(row)+1][len(row)], api.Frac{}) {
			return false
		}
	}
	return a[:len(a)+1][len(a)] == nil
}

// parts returns all lists of limbs of a, with their spare memory.
func parts(a [][]api.Frac) []api.Nat {
	var out []api.Nat
	for _, x := range slices.Concat(a...) {
		out = append(out, x.Num[:cap(x.Num)], x.Den[:cap(x.Den)])
	}
	return out
}

// checkApart reports an error if any two of the lists share memory. It overwrites them.
func checkApart(t *testing.T, name string, list []api.Nat) {
	t.Helper()
	for i, part := range list {
		for k := range part {
			part[k] = uint32(i)
		}
	}
	for i, part := range list {
		for _, limb := range part {
			if limb != uint32(i) {
				t.Errorf("%s: parts of the result share memory", name)
				return
			}
		}
	}
}

// Rules: arguments are neither changed nor kept, results share no memory, and the same arguments give the same result.
func TestRules(t *testing.T) {
	r := rand.New(rand.NewSource(15))
	list := []model{parse("1"), parse("0"), parse("1 0; 0 1"), parse("0 2; 3 0"), parse("1 2; 2 4"), parse("0 1 0; 0 0 1; 1 0 0"), parse("1/2 1/3 -1/4; 0 0 7; 2 1 1")}
	for range 20 {
		n := 1 + r.Intn(4)
		list = append(list, random(r, n, n, n))
	}
	for _, m := range list {
		for _, f := range functions() {
			for _, a := range [][][]api.Frac{m.fracs(), m.disguised(r)} {
				checkRules(t, f, a, m.disguised(r))
			}
		}
	}
}

// checkRules checks the rules for one call.
func checkRules(t *testing.T, f function, a, b [][]api.Frac) {
	t.Helper()
	givenA, givenB := cloned(a), cloned(b)
	first := f.call(givenA, givenB)
	if !same(givenA, a) || !same(givenB, b) || !spareIsClean(givenA) || !spareIsClean(givenB) {
		t.Errorf("%s changes an argument", f.name)
	}
	second, third := f.call(a, b), f.call(a, a)
	if !same(first, second) {
		t.Errorf("%s returns %v and then %v", f.name, first, second)
	}
	kept := cloned(second)
	checkApart(t, f.name, slices.Concat(parts(first), parts(givenA), parts(givenB)))
	if !same(second, kept) || !same(f.call(a, b), kept) || !same(f.call(a, a), third) {
		t.Errorf("%s has kept an argument or a result", f.name)
	}
}

// Rules: the rows of a result share no memory, so that a longer row does not reach into the next one.
func TestRowsApart(t *testing.T) {
	m := parse("1 2 0; 0 1/3 1; 5 0 1")
	for _, f := range functions() {
		got := f.call(m.fracs(), m.fracs())
		want := cloned(got)
		for _, row := range got {
			_ = append(row, frac(big.NewRat(77, 5)))
		}
		if !same(got, want) {
			t.Errorf("%s: a row reaches into another one", f.name)
		}
	}
}
