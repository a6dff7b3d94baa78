package mincost_test

import (
	"fmt"
	"math"
	"math/rand"
	"testing"

	"drydock/mincost"
)

// P13.3: flows and potentials that fit, that do not fit each other, and that are none, written out.
func TestCheck(t *testing.T) {
	n := build(2, 0, 1, [4]int{0, 1, 1, 1}, [4]int{0, 1, 1, 3})
	for amount, fit := range [][]int{{-5, -4, 0, 1}, {1, 2, 3}, {3, 4, 9}} {
		flow := [][]int{{0, 0}, {1, 0}, {1, 1}}[amount]
		for difference := -5; difference <= 9; difference++ {
			want := fit[0] <= difference && difference <= fit[len(fit)-1]
			for _, p := range []int{0, 7, -1000} {
				checkCheck(t, "two arcs", n, amount, flow, []int{p, p + difference}, want)
				checkCheck(t, "two arcs, and another amount", n, amount+1, flow, []int{p, p + difference}, false)
				checkCheck(t, "two arcs, and another amount", n, amount-1, flow, []int{p, p + difference}, false)
				checkCheck(t, "the dear arc alone", n, 1, []int{0, 1}, []int{p, p + difference}, false)
			}
		}
	}
	for _, list := range [][]int{nil, {}, {0}, {0, 2, 0}, {0, 2, 2}} {
		checkCheck(t, "another number of potentials", n, 1, []int{1, 0}, list, false)
	}
	for _, list := range [][]int{nil, {}, {1}, {1, 0, 0}, {2, -1}, {2, 0}, {-1, 2}, {math.MaxInt, math.MinInt}} {
		for _, amount := range []int{0, 1, 2} {
			checkCheck(t, "no flow", n, amount, list, []int{0, 2}, false)
		}
	}
	checkCheck(t, "flow and potentials exchanged", n, 1, []int{0, 2}, []int{1, 0}, false)
}

// P13.3: a flow between 0 and Cap asks for exactly 0, one of 0 and one of Cap for one side only, and an arc of the Cap 0 for nothing.
func TestCheckOfOneArc(t *testing.T) {
	for _, most := range []int{0, 1, 2, mostCap} {
		for _, cost := range []int{0, 1, mostCost} {
			n := build(2, 0, 1, [4]int{0, 1, most, cost})
			for _, amount := range []int{0, 1, most / 2, most - 1, most} {
				for _, reduced := range []int{-mostCost, -2, -1, 0, 1, 2, mostCost} {
					want := 0 <= amount && amount <= most && (amount == most || reduced >= 0) && (amount == 0 || reduced <= 0)
					checkCheck(t, fmt.Sprint(n), n, amount, []int{amount}, []int{5, 5 + cost - reduced}, want)
				}
			}
		}
	}
}

// P13.3: arcs from a node to itself have their Cost, whatever the potentials are, and parallel, reverse and separate arcs count one by one.
func TestCheckOfOtherArcs(t *testing.T) {
	round := build(3, 0, 1, [4]int{0, 0, 2, 0}, [4]int{2, 2, 2, 1}, [4]int{1, 1, 2, 1000})
	for flow := range lists(0, 2, 2, 2) {
		for _, potentials := range [][]int{{0, 0, 0}, {5, -6, 7}, {-mostPotential, mostPotential, 0}} {
			checkCheck(t, "arcs from a node to itself", round, 0, flow, potentials, flow[1] == 0 && flow[2] == 0)
		}
	}
	back := build(3, 0, 1, [4]int{0, 2, 5, 4}, [4]int{2, 0, 5, 6}, [4]int{2, 1, 5, 0})
	for flow := range lists(0, 3, 3, 3) {
		for difference := -7; difference <= 7; difference++ {
			// Between 4 and -6 there may be room on both arcs, at 4 flow on the one, at -6 flow on the other.
			fit := flow[0]-flow[1] == flow[2] && -6 <= difference && difference <= 4 && (flow[0] == 0 || difference == 4) && (flow[1] == 0 || difference == -6)
			checkCheck(t, "arcs forth and back", back, flow[2], flow, []int{0, difference, difference}, fit)
		}
	}
}

// P13.3: potentials go from -10^9 to 10^9, each by itself.
func TestBoundsOfPotentials(t *testing.T) {
	free := build(5, 1, 3)
	for node := range 5 {
		for _, p := range []int{-1000000000, -999999999, 0, 999999999, 1000000000} {
			checkCheck(t, "no arcs", free, 0, nil, with(make([]int, 5), node, p), true)
		}
		for _, p := range []int{-1000000001, 1000000001, -1 << 32, 1 << 32, math.MinInt, math.MaxInt} {
			checkCheck(t, "no arcs", free, 0, nil, with(make([]int, 5), node, p), false)
		}
	}
	for _, cost := range []int{0, mostCost} {
		n := build(2, 0, 1, [4]int{0, 1, 5, cost})
		for _, beyond := range []int{0, 1} {
			least, most := -mostPotential-beyond, mostPotential+beyond
			checkCheck(t, "a step down", n, 0, []int{0}, []int{most, -mostPotential}, beyond == 0)
			checkCheck(t, "a step down", n, 0, []int{0}, []int{mostPotential, least}, beyond == 0)
			checkCheck(t, "a step down, and flow", n, 5, []int{5}, []int{most, least}, false)
			checkCheck(t, "a step up", n, 5, []int{5}, []int{least, mostPotential}, beyond == 0)
			checkCheck(t, "a step up", n, 5, []int{5}, []int{-mostPotential, most}, beyond == 0)
			checkCheck(t, "a step up, and no flow", n, 0, []int{0}, []int{least, most}, false)
			checkCheck(t, "no step", n, 3, []int{3}, []int{most - cost, most}, beyond == 0)
			checkCheck(t, "no step", n, 3, []int{3}, []int{least, least + cost}, beyond == 0)
		}
		// Numbers whose difference does not fit into 64 bits.
		for _, potentials := range [][]int{{math.MaxInt, math.MinInt}, {math.MinInt, math.MaxInt}, {math.MaxInt, math.MaxInt}, {math.MinInt, 0}} {
			for _, amount := range []int{0, 3, 5} {
				checkCheck(t, "wild potentials", n, amount, []int{amount}, potentials, false)
			}
		}
	}
}

// P13.3: a flow may have a value below 0; Check is for its value and no other.
func TestCheckOfOtherAmounts(t *testing.T) {
	n := build(2, 0, 1, [4]int{1, 0, 2, 3}, [4]int{0, 1, 2, 3})
	checkCheck(t, "a value below 0", n, -1, []int{1, 0}, []int{0, -3}, true)
	checkCheck(t, "a value below 0", n, -2, []int{2, 0}, []int{0, -7}, true)
	checkCheck(t, "forth and back", n, 0, []int{1, 1}, []int{0, -3}, false)
	for _, amount := range []int{0, 1, 2, -2, 3, math.MinInt, math.MaxInt, 1 << 32, 1<<32 - 1} {
		checkCheck(t, "another amount", n, amount, []int{1, 0}, []int{0, -3}, false)
	}
}

// P13.3: one potential of a long row too much or too little, and what was proved is proved no more.
func TestEachPotentialCounts(t *testing.T) {
	row := build(700, 0, 699)
	flow, potentials := make([]int, 699), make([]int, 700)
	for i := range flow {
		row.Arcs = append(row.Arcs, build(700, 0, 699, [4]int{i, i + 1, 9, i}).Arcs...)
		flow[i], potentials[i+1] = 4, potentials[i]+i
	}
	checkCheck(t, "a row", row, 4, flow, potentials, true)
	for i := range potentials {
		for _, change := range []int{-1, 1, 1 << 32} {
			checkCheck(t, fmt.Sprint("a row with another potential of node ", i), row, 4, flow, with(potentials, i, potentials[i]+change), false)
		}
	}
	for i := range flow {
		checkCheck(t, fmt.Sprint("a row with another flow on arc ", i), row, 4, with(flow, i, 5), potentials, false)
	}
}

// P13.3: for small networks, all flows and other lists with all potentials within a few numbers.
func TestAllFlowsAndPotentials(t *testing.T) {
	r := rand.New(rand.NewSource(2))
	held := 0
	for range 150 {
		n := randomNetwork(r, 2+r.Intn(2), r.Intn(5), 2, 2)
		for flow := range lists(0, caps(n)...) {
			for potentials := range lists(-3, make([]int, n.Nodes)...) {
				for amount := -1; amount <= 3; amount++ {
					want := fits(n, amount, flow, potentials)
					checkCheck(t, fmt.Sprint(n), n, amount, flow, potentials, want)
					if want {
						held++
					}
				}
			}
		}
	}
	if held < 2000 {
		t.Errorf("Check holds %d times", held)
	}
}

// P13.3: what Solve returns for large networks fits no more after a change, but where the words of the chapter allow it.
func TestChangedCertificates(t *testing.T) {
	r := rand.New(rand.NewSource(3))
	fit, others := 0, 0
	for range 100 {
		nodes := 2 + r.Intn(100)
		n := randomNetwork(r, nodes, 1+r.Intn(4*nodes), []int{5, mostCap}[r.Intn(2)], []int{3, mostCost}[r.Intn(2)])
		amount := r.Intn(greatest(n) + 1)
		flow, _, potentials, _ := mincost.Solve(n, amount)
		for range 50 {
			i := r.Intn(nodes)
			other := with(potentials, i, potentials[i]+[]int{-1000, -1, 1, 1000}[r.Intn(4)])
			want := fits(n, amount, flow, other)
			checkCheck(t, "a changed potential", n, amount, flow, other, want)
			if want {
				fit++
			} else {
				others++
			}
			i = r.Intn(len(flow))
			list := with(flow, i, r.Intn(n.Arcs[i].Cap+1))
			checkCheck(t, "a changed flow", n, amount, list, potentials, fits(n, amount, list, potentials))
		}
	}
	if fit < 100 || others < 100 {
		t.Errorf("%d changed potentials fit, %d do not", fit, others)
	}
}
