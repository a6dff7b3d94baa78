package maxflow_test

import (
	"fmt"
	"math"
	"math/rand"
	"reflect"
	"slices"
	"testing"

	"drydock/api"
	"drydock/maxflow"
)

// answers returns all results of all functions for some arguments.
func answers(n api.Network, flow []int, cut []bool) []any {
	best, greatest, least, err := maxflow.Solve(n)
	value, isFlow := maxflow.Value(n, flow)
	capacity, isCut := maxflow.Capacity(n, cut)
	return []any{best, greatest, least, err, value, isFlow, capacity, isCut, maxflow.Valid(n), maxflow.Check(n, flow, cut)}
}

// overwrite changes all memory of the lists among some results, also that behind their elements.
func overwrite(results []any) {
	for _, x := range results {
		switch list := x.(type) {
		case []int:
			list = list[:cap(list)]
			for i := range list {
				list[i] = -77
			}
		case []bool:
			list = list[:cap(list)]
			for i := range list {
				list[i] = !list[i]
			}
		}
	}
}

// R2 and R6: no call changes its arguments, each gives the same result again, and what becomes of a result changes neither the arguments nor other results.
func TestResultsApart(t *testing.T) {
	r := rand.New(rand.NewSource(9))
	for range 300 {
		n := randomNetwork(r, 2+r.Intn(30), r.Intn(120), mostCap)
		flow, _, cut, _ := maxflow.Solve(n)
		if i := r.Intn(8); i < n.Nodes {
			cut[i] = true
		}
		if i := r.Intn(8); i < len(flow) {
			flow[i] = 0
		}
		kept := fmt.Sprint(n, flow, cut)
		first, second := answers(n, flow, cut), answers(n, flow, cut)
		text := fmt.Sprint(first)
		overwrite(first)
		if got := fmt.Sprint(second); got != text {
			t.Errorf("%s, and the second time %s", text, got)
		}
		if got := fmt.Sprint(answers(n, flow, cut)); got != text {
			t.Errorf("%s, and afterwards %s", text, got)
		}
		if got := fmt.Sprint(n, flow, cut); got != kept {
			t.Errorf("the arguments %s became %s", kept, got)
		}
	}
}

// R2: what is written over arguments changes no result that was returned before, and nothing is written behind their elements.
func TestArgumentsNotKept(t *testing.T) {
	n := randomNetwork(rand.New(rand.NewSource(10)), 20, 80, 9)
	spare := append(slices.Clone(n.Arcs), api.Arc{From: 5, To: 6, Cap: 7, Cost: 8})
	n.Arcs = spare[:80]
	flow, cut := make([]int, 81), make([]bool, 21)
	flow[80], cut[20], cut[n.Source] = 77, true, true
	results := answers(n, flow[:80], cut[:20])
	text := fmt.Sprint(results)
	if spare[80] != (api.Arc{From: 5, To: 6, Cap: 7, Cost: 8}) || flow[80] != 77 || !cut[20] {
		t.Error("a call writes behind its arguments")
	}
	clear(spare)
	clear(flow)
	clear(cut)
	if got := fmt.Sprint(results); got != text {
		t.Errorf("%s became %s", text, got)
	}
}

// R3: nil and empty lists are the same in arguments.
func TestEmptyLists(t *testing.T) {
	for _, nodes := range []int{-1, 0, 1, 2, 3, 700, 701} {
		empty := build(nodes, 0, 1)
		empty.Arcs = []api.Arc{}
		if !reflect.DeepEqual(answers(build(nodes, 0, 1), nil, nil), answers(empty, []int{}, []bool{})) {
			t.Errorf("of %d nodes: empty lists are not nil", nodes)
		}
	}
}

// R1 and R8: every call ends, whatever the arguments are.
func TestAnyArguments(t *testing.T) {
	const many = 1 << 20
	n := build(2, 0, 1, [3]int{0, 1, 5}, [3]int{1, 0, 5})
	checkValue(t, "many numbers", n, make([]int, many), 0, false)
	checkCapacity(t, "many nodes", n, alone(many, 0), 0, false)
	if maxflow.Check(n, make([]int, many), alone(many, 0)) || maxflow.Check(n, nil, nil) {
		t.Error("Check of no flow and no cut")
	}
	ends := append(numbers(), 0, 1, 2)
	r := rand.New(rand.NewSource(11))
	for range 20000 {
		pick := func() int { return ends[r.Intn(len(ends))] }
		wild := build(pick(), pick(), pick(), [3]int{pick(), pick(), pick()}, [3]int{0, 1, pick()})
		wild.Arcs[0].Cost = pick()
		if valid(wild) {
			checkSolved(t, fmt.Sprint(wild), wild)
		} else {
			checkRefused(t, fmt.Sprint(wild), wild)
		}
		checkValue(t, "wild numbers", n, []int{math.MaxInt, pick()}, 0, false)
		if value, ok := maxflow.Value(n, []int{pick(), pick()}); !ok && value != 0 || value < -2 || value > 2 {
			t.Errorf("wild numbers have the value %d, %t", value, ok)
		}
	}
}
