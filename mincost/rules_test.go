package mincost_test

import (
	"fmt"
	"math"
	"math/rand"
	"reflect"
	"slices"
	"testing"

	"drydock/api"
	"drydock/mincost"
)

// answers returns all results of all functions for some arguments.
func answers(n api.Network, amount int, flow, potentials []int) []any {
	best, least, proof, err := mincost.Solve(n, amount)
	cost, isFlow := mincost.Cost(n, flow)
	return []any{best, least, proof, err, cost, isFlow, mincost.Valid(n), mincost.Check(n, amount, flow, potentials)}
}

// overwrite changes all memory of the lists among some results, also that behind their elements.
func overwrite(results []any) {
	for _, x := range results {
		if list, ok := x.([]int); ok {
			for i := range list[:cap(list)] {
				list[:cap(list)][i] = -77
			}
		}
	}
}

// R2 and R6: no call changes its arguments, each gives the same result again, and what becomes of a result changes neither the arguments nor other results.
func TestResultsApart(t *testing.T) {
	r := rand.New(rand.NewSource(15))
	for range 300 {
		n := randomNetwork(r, 2+r.Intn(30), r.Intn(120), mostCap, mostCost)
		amount := r.Intn(greatest(n) + 2)
		flow, _, potentials, _ := mincost.Solve(n, amount)
		if i := r.Intn(8); i < len(potentials) {
			potentials[i]++
		}
		kept := fmt.Sprint(n, flow, potentials)
		first, second := answers(n, amount, flow, potentials), answers(n, amount, flow, potentials)
		text := fmt.Sprint(first)
		best, proof := first[0].([]int), first[2].([]int)
		overwritten := fmt.Sprint(proof)
		overwrite([]any{best})
		if got := fmt.Sprint(proof); got != overwritten {
			t.Errorf("the potentials %s became %s with the flow", overwritten, got)
		}
		overwrite(first)
		if got := fmt.Sprint(second); got != text {
			t.Errorf("%s, and the second time %s", text, got)
		}
		if got := fmt.Sprint(answers(n, amount, flow, potentials)); got != text {
			t.Errorf("%s, and afterwards %s", text, got)
		}
		if got := fmt.Sprint(n, flow, potentials); got != kept {
			t.Errorf("the arguments %s became %s", kept, got)
		}
	}
}

// R2: what is written over arguments changes no result that was returned before, and nothing is written behind their elements.
func TestArgumentsNotKept(t *testing.T) {
	n := randomNetwork(rand.New(rand.NewSource(16)), 20, 80, 9, 9)
	last := api.Arc{From: 5, To: 6, Cap: 7, Cost: 8}
	spare := append(slices.Clone(n.Arcs), last, last)
	n.Arcs = spare[:80]
	flow, potentials := with(make([]int, 81), 80, 77), with(make([]int, 21), 20, 77)
	results := answers(n, greatest(n), flow[:80], potentials[:20])
	text := fmt.Sprint(results)
	if spare[80] != last || spare[81] != last || flow[80] != 77 || potentials[20] != 77 {
		t.Error("a call writes behind its arguments")
	}
	clear(spare)
	clear(flow)
	clear(potentials)
	if got := fmt.Sprint(results); got != text {
		t.Errorf("%s became %s", text, got)
	}
}

// R3: nil and empty lists are the same in arguments.
func TestEmptyLists(t *testing.T) {
	for _, nodes := range []int{-1, 0, 1, 2, 3, 700, 701} {
		for _, amount := range []int{-1, 0, 1} {
			empty := build(nodes, 0, 1)
			empty.Arcs = []api.Arc{}
			if !reflect.DeepEqual(answers(build(nodes, 0, 1), amount, nil, nil), answers(empty, amount, []int{}, []int{})) {
				t.Errorf("of %d nodes: empty lists are not nil", nodes)
			}
			checkCheck(t, "no arcs", empty, amount, []int{}, make([]int, max(0, nodes)), 2 <= nodes && nodes <= 700 && amount == 0)
			checkCheck(t, "no arcs", empty, amount, nil, make([]int, max(0, nodes)), 2 <= nodes && nodes <= 700 && amount == 0)
		}
	}
}

// R1 and R8: every call ends, whatever the arguments are.
func TestAnyArguments(t *testing.T) {
	const many = 1 << 20
	n := build(2, 0, 1, [4]int{0, 1, 5, 5}, [4]int{1, 0, 5, 5})
	checkCost(t, "many numbers", n, make([]int, many), 0, false)
	checkCheck(t, "many numbers", n, 0, make([]int, many), make([]int, 2), false)
	checkCheck(t, "many numbers", n, 0, make([]int, 2), make([]int, many), false)
	ends := append(numbers(), 0, 1, 2)
	r := rand.New(rand.NewSource(17))
	for range 20000 {
		pick := func() int { return ends[r.Intn(len(ends))] }
		wild := build(pick(), pick(), pick(), [4]int{pick(), pick(), pick(), pick()}, [4]int{0, 1, pick(), pick()})
		checkAnyNetwork(t, fmt.Sprint(wild), wild)
		checkCost(t, "wild numbers", n, []int{math.MaxInt, pick()}, 0, false)
		amount, flow, potentials := pick(), []int{pick(), pick()}, []int{pick(), pick()}
		checkCheck(t, "wild numbers", n, amount, flow, potentials, fits(n, amount, flow, potentials))
		if amount < 0 {
			checkNone(t, "a wild amount", n, amount, api.ErrArg)
		} else if amount > 5 {
			checkNone(t, "a wild amount", n, amount, api.ErrInfeasible)
		} else {
			checkLeastOf(t, n, amount)
		}
	}
}

// checkLeastOf checks that an amount costs 5 for each unit.
func checkLeastOf(t *testing.T, n api.Network, amount int) {
	t.Helper()
	if got := checkSolved(t, "a small amount", n, amount); got != 5*amount {
		t.Errorf("%d cost %d", amount, got)
	}
}
