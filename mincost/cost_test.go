package mincost_test

import (
	"fmt"
	"math"
	"math/rand"
	"slices"
	"testing"

	"drydock/maxflow"
)

// P13.1: flows and other lists, written out.
func TestCost(t *testing.T) {
	row := build(3, 0, 2, [4]int{0, 1, 2, 10}, [4]int{1, 2, 3, 100})
	for i := range 3 {
		checkCost(t, "two arcs", row, []int{i, i}, 110*i, true)
	}
	for _, list := range [][]int{{3, 3}, {-1, -1}, {1, 2}, {2, 1}, {0, 1}, {1, 0}, {2, 3}, nil, {}, {1}, {1, 1, 1}, {0, 0, 0}, {math.MaxInt, math.MaxInt}, {math.MinInt, math.MinInt}} {
		checkCost(t, "two arcs", row, list, 0, false)
	}
	for i := range 3 {
		for _, number := range []int{-1, 3} {
			fork := build(3, 0, 2, [4]int{0, 2, 2, 1}, [4]int{0, 2, 2, 1}, [4]int{0, 2, 2, 1})
			checkCost(t, "three arcs", fork, with([]int{1, 1, 1}, i, number), 0, false)
		}
	}
}

// P13.1: arcs of any kind cost as much as they carry: to Source, from Sink, from a node to itself, and in a ring apart.
func TestCostOfOtherArcs(t *testing.T) {
	n := build(4, 0, 1, [4]int{1, 0, 2, 1}, [4]int{0, 1, 1, 10}, [4]int{0, 0, 2, 100}, [4]int{1, 1, 1, 1000}, [4]int{2, 2, 2, 3}, [4]int{2, 3, 2, 50}, [4]int{3, 2, 2, 500})
	for list := range lists(0, caps(n)...) {
		want := list[0] + 10*list[1] + 100*list[2] + 1000*list[3] + 3*list[4] + 550*list[5]
		if list[5] == list[6] {
			checkCost(t, "arcs of any kind", n, list, want, true)
		} else {
			checkCost(t, "arcs of any kind", n, list, 0, false)
		}
	}
	checkCost(t, "no arcs", build(2, 0, 1), nil, 0, true)
	checkCost(t, "no arcs", build(700, 699, 5), []int{}, 0, true)
	checkCost(t, "no arcs", build(2, 0, 1), []int{0}, 0, false)
}

// P13.1: the greatest cost of all.
func TestGreatestCost(t *testing.T) {
	flow := slices.Repeat([]int{mostCap}, mostArcs)
	const all = 2500000000000 // 2500 arcs, each with 1,000,000 at the Cost 1,000
	for _, ends := range [][2]int{{0, 699}, {699, 0}, {9, 9}, {0, 0}} {
		n := build(700, 0, 699, slices.Repeat([][4]int{{ends[0], ends[1], mostCap, mostCost}}, mostArcs)...)
		checkCost(t, fmt.Sprint(ends), n, flow, all, true)
		for _, wrong := range []int{-1, mostCap + 1, math.MinInt, math.MaxInt, mostCap - 1<<32} {
			checkCost(t, "one number is wrong", n, with(flow, mostArcs-1, wrong), 0, false)
		}
	}
}

// P13.1: all lists for small networks, also with numbers outside of the bounds, and lists of other lengths.
func TestCostOfAllLists(t *testing.T) {
	r := rand.New(rand.NewSource(1))
	flows, costly := 0, 0
	for range 500 {
		n := randomNetwork(r, 2+r.Intn(3), r.Intn(6), 2, 1+r.Intn(mostCost))
		most := caps(n)
		for i := range most {
			most[i]++
		}
		for list := range lists(-1, most...) {
			want := 0
			_, isFlow := maxflow.Value(n, list)
			if isFlow {
				want = sum(n, list)
				flows++
				checkCost(t, "a number more", n, append(list, 0), 0, false)
			}
			if want > 0 {
				costly++
			}
			checkCost(t, fmt.Sprint(n), n, list, want, isFlow)
		}
		checkCost(t, "a number less", n, make([]int, max(0, len(n.Arcs)-1)), 0, len(n.Arcs) == 0)
	}
	if flows < 3000 || costly < 2000 {
		t.Errorf("%d lists are flows, %d of them cost something", flows, costly)
	}
}
