package maxflow_test

import (
	"fmt"
	"math"
	"math/rand"
	"slices"
	"testing"

	"drydock/api"
	"drydock/maxflow"
)

// Chapter 12: all networks of up to three nodes with an arc, with numbers and Caps inside and outside of their bounds.
func TestSmallNetworks(t *testing.T) {
	count := 0
	for nodes := -1; nodes <= 3; nodes++ {
		for ends := range lists(-1, []int{4, 4, 4, 4}) {
			for _, most := range []int{math.MinInt, -1, 0, 1, mostCap, mostCap + 1, math.MaxInt} {
				n := build(nodes, ends[0], ends[1], [3]int{ends[2], ends[3], most})
				if valid(n) {
					count++
					checkSolved(t, fmt.Sprint(n), n)
				} else {
					checkRefused(t, fmt.Sprint(n), n)
				}
			}
		}
	}
	// Two nodes have two pairs of different ones and four pairs of any, three nodes six and nine. Three Caps are within the bounds.
	if want := 3 * (2*4 + 6*9); count != want {
		t.Errorf("%d networks are valid, want %d", count, want)
	}
}

// Chapter 12: how many nodes there may be, whatever else there is.
func TestNumberOfNodes(t *testing.T) {
	for _, nodes := range []int{2, 3, 699, 700} {
		checkSolved(t, fmt.Sprint(nodes, " nodes"), build(nodes, 0, nodes-1, [3]int{0, nodes - 1, 5}))
		checkSolved(t, fmt.Sprint(nodes, " nodes and no arcs"), build(nodes, nodes-1, nodes-2))
	}
	for _, nodes := range []int{math.MinInt, -700, -2, -1, 0, 1, 701, 702, 1 << 20, 1 << 32, 1<<32 + 2, math.MaxInt} {
		checkRefused(t, fmt.Sprint(nodes, " nodes"), build(nodes, 0, 1, [3]int{0, 1, 5}))
		checkRefused(t, fmt.Sprint(nodes, " nodes and no arcs"), build(nodes, 0, 1))
		checkRefused(t, fmt.Sprint(nodes, " nodes, Source and Sink alike"), build(nodes, 0, 0))
		checkRefused(t, fmt.Sprint(nodes, " nodes, Source and Sink the last"), build(nodes, nodes-1, nodes-2))
	}
	checkRefused(t, "the zero value", api.Network{})
}

// Chapter 12: how many arcs there may be.
func TestNumberOfArcs(t *testing.T) {
	for _, arcs := range []int{0, 1, 2499, 2500} {
		n := build(2, 1, 0, slices.Repeat([][3]int{{1, 0, 3}}, arcs)...)
		if got := checkSolved(t, fmt.Sprint(arcs, " arcs"), n); got != 3*arcs {
			t.Errorf("%d arcs of the Cap 3 have the value %d", arcs, got)
		}
	}
	for _, arcs := range []int{2501, 2502, 5000, 65536 + 7, 1 << 20} {
		for _, a := range [][3]int{{1, 0, 3}, {1, 1, 3}, {0, 1, 3}, {0, 1, 0}} {
			checkRefused(t, fmt.Sprint(arcs, " arcs"), build(2, 1, 0, slices.Repeat([][3]int{a}, arcs)...))
		}
	}
}

// Chapter 12: Source and Sink are two different nodes.
func TestSourceAndSink(t *testing.T) {
	for _, nodes := range []int{2, 3, 5, 700} {
		ends := append(numbers(), 0, 1, nodes-2, nodes-1, nodes, nodes+1)
		for _, source := range ends {
			for _, sink := range ends {
				n := build(nodes, source, sink, [3]int{0, 1, 1}, [3]int{1, 0, 2})
				if name := fmt.Sprintf("Source %d and Sink %d of %d nodes", source, sink, nodes); valid(n) {
					checkSolved(t, name, n)
				} else {
					checkRefused(t, name, n)
				}
			}
		}
	}
}

// Chapter 12: what is wrong with one arc, alone, first, last and between others.
func TestWrongArc(t *testing.T) {
	wrong := [][3]int{{0, 1, -1}, {0, 0, -1}, {0, 1, math.MinInt}, {1, 0, mostCap + 1}, {1, 1, mostCap + 1}, {0, 1, 1 << 32}, {0, 1, math.MaxInt}}
	for _, node := range append(numbers(), 5, 6) {
		wrong = append(wrong, [3]int{node, 1, 1}, [3]int{0, node, 0}, [3]int{node, node, 1})
	}
	for _, a := range wrong {
		for _, arcs := range []int{1, 2, 9, 2500} {
			for _, place := range []int{0, arcs / 2, arcs - 1} {
				list := slices.Repeat([][3]int{{0, 1, 1}}, arcs)
				list[place] = a
				checkRefused(t, fmt.Sprintf("arc %d of %d is %v", place, arcs, a), build(5, 0, 4, list...))
			}
		}
	}
}

// Chapter 12: arcs may be parallel, lead back, lead from a node to itself, and have the Cap 0 or the greatest one.
func TestAnyArcs(t *testing.T) {
	for _, arcs := range [][][3]int{
		{{0, 1, 4}, {0, 1, 4}, {0, 1, 4}}, {{0, 1, 4}, {1, 0, 4}}, {{1, 0, 4}}, {{0, 0, 4}}, {{1, 1, 4}}, {{2, 2, 4}}, {{2, 2, mostCap}, {2, 2, mostCap}, {0, 2, 1}, {2, 1, 1}, {2, 2, 0}},
		{{0, 1, 0}}, {{0, 1, mostCap}}, {{0, 0, mostCap}, {1, 1, mostCap}, {1, 0, mostCap}, {0, 1, mostCap}}, {{0, 0, 0}, {1, 1, 0}, {1, 0, 0}, {0, 1, 0}},
	} {
		n := build(3, 0, 1, arcs...)
		checkSolved(t, fmt.Sprint(arcs), n)
	}
}

// Chapter 12: the Costs do not count, whatever they are.
func TestCostsDoNotCount(t *testing.T) {
	r := rand.New(rand.NewSource(1))
	for range 200 {
		n := randomNetwork(r, 2+r.Intn(9), r.Intn(30), 10)
		flow, value, cut, err := maxflow.Solve(n)
		dear := n
		dear.Arcs = slices.Clone(n.Arcs)
		for i := range dear.Arcs {
			dear.Arcs[i].Cost = []int{-1, 1, 1000, 1001, math.MinInt, math.MaxInt}[r.Intn(6)]
		}
		gotFlow, gotValue, gotCut, gotErr := maxflow.Solve(dear)
		if !slices.Equal(gotFlow, flow) || gotValue != value || !slices.Equal(gotCut, cut) || gotErr != err {
			t.Errorf("Costs change the result for %v", n)
		}
		if !maxflow.Valid(dear) || !maxflow.Check(dear, flow, cut) {
			t.Errorf("with Costs %v is not valid", n)
		}
		checkValue(t, "with Costs", dear, flow, value, true)
		checkCapacity(t, "with Costs", dear, cut, value, true)
	}
}
