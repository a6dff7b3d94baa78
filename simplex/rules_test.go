package simplex_test

import (
	"fmt"
	"math"
	"math/big"
	"math/rand"
	"slices"
	"testing"

	"drydock/api"
	"drydock/simplex"
)

// answers returns all results of all functions for some arguments.
func answers(p api.Program, s api.Solution) []any {
	solution, err := simplex.Solve(p)
	return []any{simplex.Valid(p), solution, err, simplex.Check(p, s)}
}

// limbs returns all lists of limbs of some fractions, with their spare memory.
func limbs(list []api.Frac) []api.Nat {
	var out []api.Nat
	for _, x := range list {
		out = append(out, x.Num[:cap(x.Num)], x.Den[:cap(x.Den)])
	}
	return out
}

// numbersIn returns all numbers of p.
func numbersIn(p api.Program) []api.Frac {
	return slices.Concat(append([][]api.Frac{p.Cost, p.Right}, p.Rows...)...)
}

// checkApart overwrites the memory of all the numbers, and reports an error if any two of them share some.
func checkApart(t *testing.T, list []api.Frac) {
	t.Helper()
	parts := limbs(list)
	for i, part := range parts {
		for k := range part {
			part[k] = uint32(i)
		}
	}
	for i, part := range parts {
		for _, limb := range part {
			if limb != uint32(i) {
				t.Errorf("part %d shares memory with another one", i)
			}
		}
	}
}

// checkListsApart overwrites the lists of s one after the other, also behind their ends, and reports an error if another one changes.
func checkListsApart(t *testing.T, s api.Solution) {
	t.Helper()
	lists := [][]api.Frac{s.X, s.Y, s.Ray}
	for i, list := range lists {
		before := fmt.Sprint(slices.Delete(slices.Clone(lists), i, i+1))
		for k := range list[:cap(list)] {
			list[:cap(list)][k] = api.Frac{Num: api.Nat{77}, Den: api.Nat{78}}
		}
		if after := fmt.Sprint(slices.Delete(slices.Clone(lists), i, i+1)); after != before {
			t.Errorf("%s became %s with list %d", before, after, i)
		}
	}
}

// deep returns a copy of p that shares no memory with it, with spare memory behind every list.
func deep(p api.Program) api.Program {
	out := api.Program{Cost: deepList(p.Cost), Right: deepList(p.Right), Rows: make([][]api.Frac, 0, len(p.Rows)+1)}
	for _, row := range p.Rows {
		out.Rows = append(out.Rows, deepList(row))
	}
	return out
}

// deepList is deep for one list.
func deepList(list []api.Frac) []api.Frac {
	out := make([]api.Frac, 0, len(list)+1)
	for _, x := range list {
		out = append(out, api.Frac{Neg: x.Neg, Num: append(make(api.Nat, 0, len(x.Num)+1), x.Num...), Den: append(make(api.Nat, 0, len(x.Den)+1), x.Den...)})
	}
	return out
}

// isClean reports whether nothing was written behind the lists of a copy that deep has made.
func isClean(p api.Program) bool {
	for _, list := range append([][]api.Frac{p.Cost, p.Right}, p.Rows...) {
		if end := list[:len(list)+1][len(list)]; end.Neg || end.Num != nil || end.Den != nil {
			return false
		}
		for _, x := range list {
			if x.Num[:len(x.Num)+1][len(x.Num)] != 0 || x.Den[:len(x.Den)+1][len(x.Den)] != 0 {
				return false
			}
		}
	}
	return p.Rows[:len(p.Rows)+1][len(p.Rows)] == nil
}

// R2 and R6: no call changes its arguments, each gives the same result again, and what becomes of arguments and results changes no other result.
func TestResultsApart(t *testing.T) {
	r := rand.New(rand.NewSource(21))
	kinds := map[int]int{}
	for range 300 {
		m := random(r, 4, 6, 3)
		p := deep(m.disguised(r))
		s, _ := simplex.Solve(p)
		kinds[s.Kind]++
		given := fmt.Sprint(p, s)
		first, second := answers(p, s), answers(deep(p), s)
		kept := fmt.Sprint(first)
		if got := fmt.Sprint(second); got != kept {
			t.Errorf("%s, and the second time %s", kept, got)
		}
		if got := fmt.Sprint(p, s); got != given || !isClean(p) {
			t.Errorf("the arguments %s became %s", given, got)
		}
		again := deep(p)
		checkApart(t, slices.Concat(numbersIn(p), numbersOf(first[1].(api.Solution))))
		if got := fmt.Sprint(second); got != kept {
			t.Errorf("%s became %s", kept, got)
		}
		if got := fmt.Sprint(answers(again, s)); got != kept {
			t.Errorf("%s, and afterwards %s", kept, got)
		}
		checkListsApart(t, second[1].(api.Solution))
	}
	if min(kinds[1], kinds[2], kinds[3]) < 20 {
		t.Errorf("the kinds %v", kinds)
	}
}

// R3: nil and empty lists are the same in arguments.
func TestEmptyLists(t *testing.T) {
	none := []api.Frac{}
	for _, c := range samples() {
		p, s := c.program.fracs(), copied(c.solution)
		for _, list := range listsOf(&s) {
			if len(*list) == 0 {
				*list = none
			}
		}
		checkAnswer(t, c.name+" with an empty list", p, s, true)
	}
	for _, p := range []api.Program{{Cost: none, Rows: [][]api.Frac{}, Right: none}, {Cost: none, Rows: [][]api.Frac{none}, Right: texts("1")}, {Cost: none, Rows: [][]api.Frac{nil}, Right: texts("1")}} {
		checkValid(t, "empty lists", p, false)
		checkAnswer(t, "empty lists", p, api.Solution{Kind: 2, X: none, Y: texts("1"), Ray: none, Value: frac(new(big.Rat))}, false)
	}
}

// R2: lists may share memory with each other in arguments.
func TestSharedArguments(t *testing.T) {
	list := texts("2")
	p := api.Program{Cost: list, Rows: [][]api.Frac{list, list}, Right: append(list, list...)}
	checkAnswer(t, "one list for all", p, api.Solution{Kind: 1, X: texts("1"), Y: texts("1 0"), Value: list[0]}, true)
	if s := solved(t, "one list for all", p); s.Kind != api.LPOptimal || fmt.Sprint(s.Value) != fmt.Sprint(list[0]) {
		t.Errorf("%v", s)
	}
}

// R1: every call ends for lists and numbers of any length.
func TestLargeArguments(t *testing.T) {
	const many = 1 << 17
	one := frac(ratio(1, 1))
	huge := make([]api.Frac, many)
	for i := range huge {
		huge[i] = one
	}
	long := make(api.Nat, many)
	long[0] = 1
	tail := append(api.Nat{1}, make(api.Nat, many)...)
	for _, p := range []api.Program{{Cost: huge, Rows: [][]api.Frac{huge}, Right: huge[:1]}, {Cost: huge[:1], Rows: make([][]api.Frac, many), Right: huge}, {Cost: huge[:1], Rows: [][]api.Frac{huge}, Right: huge[:1]}, {Cost: huge[:1], Rows: [][]api.Frac{huge[:1]}, Right: huge}} {
		checkValid(t, "many numbers", p, false)
		checkAnswer(t, "many numbers", p, api.Solution{Kind: 1, X: huge, Y: huge, Value: one}, false)
	}
	for name, x := range map[string]api.Frac{"zero limbs": {Num: tail, Den: tail}, "long limbs": {Num: long, Den: api.Nat{1}}} {
		p := api.Program{Cost: []api.Frac{x}, Rows: [][]api.Frac{{x}}, Right: []api.Frac{x}}
		checkValid(t, name, p, true)
		checkAnswer(t, name, p, api.Solution{Kind: 1, X: []api.Frac{x}, Y: []api.Frac{x}, Value: x}, true)
	}
	long[many-1] = 1
	p := parse("1; 1 = 1").fracs()
	for _, x := range []api.Frac{{Num: long, Den: api.Nat{1}}, {Num: api.Nat{1}, Den: long}, {Num: long, Den: long}} {
		checkAnswer(t, "a long number", p, api.Solution{Kind: 1, X: []api.Frac{x}, Y: []api.Frac{one}, Value: one}, false)
		checkAnswer(t, "a long Value", p, api.Solution{Kind: 1, X: []api.Frac{one}, Y: []api.Frac{one}, Value: x}, false)
		checkValid(t, "a long number", api.Program{Cost: []api.Frac{x}, Rows: p.Rows, Right: p.Right}, false)
	}
	for _, kind := range []int{math.MinInt, 1, 2, 3, math.MaxInt} {
		checkAnswer(t, "many numbers in the solution", p, api.Solution{Kind: kind, X: huge, Y: huge, Ray: huge, Value: one}, false)
	}
}
