package maxflow_test

import (
	"fmt"
	"math"
	"math/rand"
	"slices"
	"testing"
)

// P12.1: flows and other lists, written out.
func TestValue(t *testing.T) {
	row := build(3, 0, 2, [3]int{0, 1, 2}, [3]int{1, 2, 3})
	for i := range 3 {
		checkValue(t, "two arcs", row, []int{i, i}, i, true)
	}
	for _, list := range [][]int{{3, 3}, {-1, -1}, {1, 2}, {2, 1}, {0, 1}, {1, 0}, {2, 3}, nil, {}, {1}, {1, 1, 1}, {0, 0, 0}, {math.MaxInt, math.MaxInt}, {math.MinInt, math.MinInt}} {
		checkValue(t, "two arcs", row, list, 0, false)
	}
	// Node 0 is none of Source and Sink here, and the last node is Source.
	fork := build(4, 3, 1, [3]int{3, 0, 5}, [3]int{3, 2, 5}, [3]int{0, 1, 4}, [3]int{2, 1, 4}, [3]int{0, 2, 2}, [3]int{2, 0, 2})
	checkValue(t, "a fork", fork, []int{4, 4, 4, 4, 0, 0}, 8, true)
	checkValue(t, "a fork", fork, []int{4, 4, 4, 4, 2, 2}, 8, true)
	checkValue(t, "a fork", fork, []int{5, 1, 3, 3, 2, 0}, 6, true)
	checkValue(t, "a fork", fork, []int{0, 0, 0, 0, 1, 1}, 0, true)
	for _, list := range [][]int{{4, 4, 4, 4, 1, 0}, {4, 4, 4, 4, 0, 1}, {5, 4, 4, 4, 0, 0}, {4, 4, 4, 3, 0, 0}, {5, 5, 5, 5, 0, 0}, {1, 0, 0, 1, 0, 0}} {
		checkValue(t, "a fork", fork, list, 0, false)
	}
}

// P12.1: values below 0, arcs to Source and from Sink, and arcs from a node to itself.
func TestValueOfOtherArcs(t *testing.T) {
	back := build(3, 0, 1, [3]int{1, 0, 5}, [3]int{0, 1, 2}, [3]int{1, 2, 7}, [3]int{2, 0, 7})
	for flow := range lists(0, []int{5, 2, 7, 7}) {
		value, ok := flow[1]-flow[0]-flow[3], flow[2] == flow[3]
		if !ok {
			value = 0
		}
		checkValue(t, "arcs that lead back", back, flow, value, ok)
	}
	round := build(3, 1, 2, [3]int{1, 1, 3}, [3]int{0, 0, 3}, [3]int{2, 2, 3}, [3]int{1, 2, 2})
	for flow := range lists(0, caps(round)) {
		checkValue(t, "arcs from a node to itself", round, flow, flow[3], true)
	}
	checkValue(t, "an arc from Source to itself", build(2, 0, 1, [3]int{0, 0, 9}), []int{10}, 0, false)
	checkValue(t, "an arc from Source to itself", build(2, 0, 1, [3]int{0, 0, 9}), []int{-1}, 0, false)
	checkValue(t, "no arcs", build(2, 0, 1), nil, 0, true)
	checkValue(t, "no arcs", build(700, 699, 5), []int{}, 0, true)
	checkValue(t, "no arcs", build(2, 0, 1), []int{0}, 0, false)
}

// P12.1: the greatest and the least value of all.
func TestGreatestValue(t *testing.T) {
	flow := slices.Repeat([]int{mostCap}, mostArcs)
	const all = 5368709117500 // 2500 * (2^31 - 1)
	checkValue(t, "all arcs from Source", build(700, 0, 699, slices.Repeat([][3]int{{0, 699, mostCap}}, mostArcs)...), flow, all, true)
	checkValue(t, "all arcs to Source", build(700, 699, 0, slices.Repeat([][3]int{{0, 699, mostCap}}, mostArcs)...), flow, -all, true)
	checkValue(t, "all arcs from Source to itself", build(700, 9, 699, slices.Repeat([][3]int{{9, 9, mostCap}}, mostArcs)...), flow, 0, true)
	for _, wrong := range []int{-1, mostCap + 1, math.MinInt, math.MaxInt, mostCap - 1<<32} {
		list := slices.Clone(flow)
		list[mostArcs-1] = wrong
		checkValue(t, "one number is wrong", build(700, 0, 699, slices.Repeat([][3]int{{0, 699, mostCap}}, mostArcs)...), list, 0, false)
	}
}

// P12.1: one more on any arc of a long ring, and what flows is no flow any more.
func TestNodeWithoutBalance(t *testing.T) {
	arcs := [][3]int{{699, 0, 1 << 20}}
	for i := range 699 {
		arcs = append(arcs, [3]int{i, i + 1, 1 << 20})
	}
	ring := build(700, 17, 400, arcs...)
	checkValue(t, "a ring", ring, slices.Repeat([]int{7}, 700), 0, true)
	half := slices.Repeat([]int{7}, 700)
	for i := 18; i <= 400; i++ {
		half[i] = 12 // the arc from node i - 1
	}
	checkValue(t, "half a ring", ring, half, 5, true)
	for i := range half {
		half[i]++
		checkValue(t, fmt.Sprint("half a ring, and one more on arc ", i), ring, half, 0, false)
		half[i]--
	}
}

// P12.1: sums that agree over all nodes, but not at each, make no flow; neither do sums that differ by 2^32.
func TestBalanceOfEachNode(t *testing.T) {
	n := build(4, 0, 1, [3]int{0, 2, 5}, [3]int{3, 1, 5}, [3]int{0, 1, 5})
	checkValue(t, "what reaches node 2 leaves node 3", n, []int{5, 5, 5}, 0, false)
	checkValue(t, "neither reaches nor leaves", n, []int{0, 0, 5}, 5, true)
	long := build(3, 0, 1, [3]int{0, 2, mostCap}, [3]int{0, 2, mostCap}, [3]int{0, 2, 2}, [3]int{2, 1, 3})
	checkValue(t, "2^32 too much", long, []int{mostCap, mostCap, 2, 0}, 0, false)
	checkValue(t, "what is not too much", long, []int{0, 1, 2, 3}, 3, true)
}

// P12.1: all lists for small networks, also with numbers outside of the bounds, and lists of other lengths.
func TestValueOfAllLists(t *testing.T) {
	r := rand.New(rand.NewSource(2))
	flows, below := 0, 0
	for range 800 {
		n := randomNetwork(r, 2+r.Intn(3), r.Intn(7), 2)
		most := caps(n)
		for i := range most {
			most[i]++
		}
		for list := range lists(-1, most) {
			value, ok := valueOf(n, list)
			checkValue(t, fmt.Sprint(n), n, list, value, ok)
			if ok {
				flows++
				checkValue(t, "a number more", n, append(list, 0), 0, false)
			}
			if value < 0 {
				below++
			}
		}
		checkValue(t, "a number less", n, make([]int, max(0, len(n.Arcs)-1)), 0, len(n.Arcs) == 0)
	}
	if flows < 5000 || below < 500 {
		t.Errorf("%d lists are flows, %d values are below 0", flows, below)
	}
}
