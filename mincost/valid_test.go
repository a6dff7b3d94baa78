package mincost_test

import (
	"fmt"
	"math"
	"slices"
	"testing"

	"drydock/api"
	"drydock/maxflow"
)

// Chapter 13: the bounds of a Cost, whatever the Cap is, from one node to another and from a node to itself.
func TestCosts(t *testing.T) {
	for _, most := range []int{0, 1, mostCap} {
		for _, ends := range [][2]int{{0, 1}, {1, 0}, {0, 0}, {1, 1}, {2, 2}, {1, 2}} {
			for _, cost := range []int{0, 1, 2, 999, 1000} {
				n := build(3, 0, 1, [4]int{ends[0], ends[1], most, cost})
				checkSolved(t, fmt.Sprint(n), n, 0)
			}
			for _, cost := range []int{-1, -2, -1000, 1001, 1002, 1 << 32, -1 << 32, 1<<32 + 1, math.MinInt, math.MaxInt} {
				n := build(3, 0, 1, [4]int{ends[0], ends[1], most, cost})
				checkRefused(t, fmt.Sprint(n), n)
				if !maxflow.Valid(n) {
					t.Errorf("%v is not valid for layer 12", n)
				}
			}
		}
	}
}

// Chapter 13: the bounds of a Cap, also those that layer 12 would allow.
func TestCaps(t *testing.T) {
	for _, cost := range []int{0, 1, mostCost} {
		for _, ends := range [][2]int{{0, 1}, {1, 0}, {0, 0}, {1, 1}, {2, 2}, {1, 2}} {
			for _, most := range []int{0, 1, 2, 999999, 1000000} {
				n := build(3, 0, 1, [4]int{ends[0], ends[1], most, cost})
				checkSolved(t, fmt.Sprint(n), n, 0)
			}
			for _, most := range []int{-1, -2, -mostCap, 1000001, 1000002, 1<<31 - 1, 1 << 31, 1 << 32, 1<<32 + 1, math.MinInt, math.MaxInt} {
				n := build(3, 0, 1, [4]int{ends[0], ends[1], most, cost})
				checkRefused(t, fmt.Sprint(n), n)
			}
		}
	}
}

// Chapter 13: what is wrong with one arc, alone, first, last and between others.
func TestWrongArc(t *testing.T) {
	wrong := [][4]int{{0, 1, 1, -1}, {0, 1, 1, 1001}, {0, 1, 0, 1001}, {0, 1, -1, 1}, {0, 1, 1000001, 1}, {0, 0, 1, -1}, {2, 2, 0, -1}, {1, 0, 1 << 31, 0}}
	for _, node := range append(numbers(), 5, 6) {
		wrong = append(wrong, [4]int{node, 1, 1, 1}, [4]int{0, node, 1, 1}, [4]int{node, node, 0, 0})
	}
	for _, a := range wrong {
		for _, arcs := range []int{1, 2, 9, mostArcs} {
			for _, place := range []int{0, arcs / 2, arcs - 1} {
				list := slices.Repeat([][4]int{{0, 1, 1, 1}}, arcs)
				list[place] = a
				checkRefused(t, fmt.Sprintf("arc %d of %d is %v", place, arcs, a), build(5, 0, 4, list...))
			}
		}
	}
}

// Chapter 13: how many nodes there may be, whatever else there is.
func TestNumberOfNodes(t *testing.T) {
	for _, nodes := range []int{2, 3, 699, 700} {
		checkSolved(t, fmt.Sprint(nodes, " nodes"), build(nodes, 0, nodes-1, [4]int{0, nodes - 1, 5, 1000}), 5)
		checkSolved(t, fmt.Sprint(nodes, " nodes and no arcs"), build(nodes, nodes-1, nodes-2), 0)
	}
	for _, nodes := range []int{math.MinInt, -700, -2, -1, 0, 1, 701, 702, 1 << 20, 1 << 32, 1<<32 + 2, math.MaxInt} {
		checkRefused(t, fmt.Sprint(nodes, " nodes"), build(nodes, 0, 1, [4]int{0, 1, 5, 5}))
		checkRefused(t, fmt.Sprint(nodes, " nodes and no arcs"), build(nodes, 0, 1))
		checkRefused(t, fmt.Sprint(nodes, " nodes, Source and Sink the last"), build(nodes, nodes-1, nodes-2))
	}
	checkRefused(t, "the zero value", api.Network{})
}

// Chapter 13: how many arcs there may be.
func TestNumberOfArcs(t *testing.T) {
	for _, arcs := range []int{0, 1, 2499, 2500} {
		n := build(2, 1, 0, slices.Repeat([][4]int{{1, 0, 3, 7}}, arcs)...)
		if got := checkSolved(t, fmt.Sprint(arcs, " arcs"), n, 3*arcs); got != 21*arcs {
			t.Errorf("%d arcs of the Cap 3 and the Cost 7 cost %d", arcs, got)
		}
	}
	for _, arcs := range []int{2501, 2502, 5000, 65536 + 7, 1 << 20} {
		for _, a := range [][4]int{{1, 0, 3, 7}, {1, 1, 3, 7}, {0, 1, 0, 0}} {
			checkRefused(t, fmt.Sprint(arcs, " arcs"), build(2, 1, 0, slices.Repeat([][4]int{a}, arcs)...))
		}
	}
}

// Chapter 13: Source and Sink are two different nodes.
func TestSourceAndSink(t *testing.T) {
	for _, nodes := range []int{2, 3, 5, 700} {
		ends := append(numbers(), 0, 1, nodes-2, nodes-1, nodes, nodes+1)
		for _, source := range ends {
			for _, sink := range ends {
				n := build(nodes, source, sink, [4]int{0, 1, 1, 1}, [4]int{1, 0, 2, 2})
				checkAnyNetwork(t, fmt.Sprintf("Source %d and Sink %d of %d nodes", source, sink, nodes), n)
			}
		}
	}
}

// Chapter 13: all networks of up to three nodes with an arc, with numbers inside and outside of the bounds of nodes.
func TestSmallNetworks(t *testing.T) {
	count := 0
	for nodes := -1; nodes <= 3; nodes++ {
		for ends := range lists(-1, 4, 4, 4, 4) {
			n := build(nodes, ends[0], ends[1], [4]int{ends[2], ends[3], 2, 3})
			checkAnyNetwork(t, fmt.Sprint(n), n)
			if valid(n) {
				count++
			}
		}
	}
	// Two nodes have two pairs of different ones and four pairs of any, three nodes six and nine.
	if want := 2*4 + 6*9; count != want {
		t.Errorf("%d networks are valid, want %d", count, want)
	}
}
