package mincost_test

import (
	"fmt"
	"math"
	"math/rand"
	"slices"
	"testing"

	"drydock/api"
	"drydock/mincost"
)

// checkLeast checks what Solve returns for a network and for the same one in other orders, and that its cost is as expected.
func checkLeast(t *testing.T, name string, n api.Network, amount, want int) {
	t.Helper()
	if got := checkSolved(t, name, n, amount); got != want {
		t.Errorf("%s: %d cost %d, want %d", name, amount, got, want)
	}
	r := rand.New(rand.NewSource(4))
	for range 3 {
		if got := checkSolved(t, name, renumbered(r, n), amount); got != want {
			t.Errorf("%s: in another order %d cost %d, want %d", name, amount, got, want)
		}
	}
}

// checkCosts checks the costs of all amounts from 0 to the greatest, and that there is no flow beyond it.
func checkCosts(t *testing.T, name string, n api.Network, want ...int) {
	t.Helper()
	for amount, cost := range want {
		checkLeast(t, name, n, amount, cost)
	}
	for _, amount := range []int{len(want), len(want) + 1, 2*len(want) + 5, 1 << 31, 1 << 32, 1<<32 + 1, 1 << 40, math.MaxInt} {
		checkNone(t, name, n, amount, api.ErrInfeasible)
	}
}

// The example of the chapter.
func TestExample(t *testing.T) {
	n := build(2, 0, 1, [4]int{0, 1, 1, 1}, [4]int{0, 1, 1, 3})
	flow, cost, potentials, err := mincost.Solve(n, 2)
	if !slices.Equal(flow, []int{1, 1}) || cost != 4 || len(potentials) != 2 || potentials[1]-potentials[0] < 3 || err != api.OK {
		t.Errorf("Solve returns %v, %d, %v, %d", flow, cost, potentials, err)
	}
	checkCosts(t, "two parallel arcs", n, 0, 1, 4)
	checkCosts(t, "the arcs exchanged", build(2, 0, 1, [4]int{0, 1, 1, 3}, [4]int{0, 1, 1, 1}), 0, 1, 4)
}

// P13.2: networks whose least costs are seen at once, for all amounts.
func TestSolve(t *testing.T) {
	checkCosts(t, "no arcs", build(2, 0, 1), 0)
	checkCosts(t, "a Cap of 0", build(2, 0, 1, [4]int{0, 1, 0, 5}), 0)
	checkCosts(t, "only back", build(2, 0, 1, [4]int{1, 0, 9, 5}), 0)
	checkCosts(t, "only from nodes to themselves", build(2, 0, 1, [4]int{0, 0, 9, 0}, [4]int{1, 1, 9, 5}), 0)
	checkCosts(t, "no way to Sink", build(4, 0, 3, [4]int{0, 1, 9, 0}, [4]int{1, 2, 9, 1}, [4]int{2, 0, 9, 2}, [4]int{3, 2, 9, 3}), 0)
	checkCosts(t, "one arc", build(2, 0, 1, [4]int{0, 1, 3, 1000}), 0, 1000, 2000, 3000)
	checkCosts(t, "arcs that are free", build(3, 0, 2, [4]int{0, 1, 3, 0}, [4]int{1, 2, 2, 0}), 0, 0, 0)
	checkCosts(t, "arcs one behind the other", build(3, 0, 2, [4]int{0, 1, 3, 20}, [4]int{1, 2, 2, 300}), 0, 320, 640)
	checkCosts(t, "parallel arcs", build(2, 0, 1, [4]int{0, 1, 1, 7}, [4]int{0, 1, 2, 5}, [4]int{0, 1, 0, 1}, [4]int{0, 1, 1, 1000}, [4]int{0, 1, 1, 0}), 0, 0, 5, 10, 17, 1017)
	checkCosts(t, "a long way that is cheap", build(4, 0, 3, [4]int{0, 3, 2, 50}, [4]int{0, 1, 2, 1}, [4]int{1, 2, 1, 2}, [4]int{2, 3, 2, 3}), 0, 6, 56, 106)
	checkCosts(t, "arcs that lead back", build(3, 0, 2, [4]int{0, 1, 2, 4}, [4]int{1, 0, 4, 0}, [4]int{1, 2, 3, 5}, [4]int{2, 1, 3, 0}, [4]int{2, 0, 9, 0}), 0, 9, 18)
	// The cheapest way takes the arc from 1 to 2, and no flow of 2 does.
	checkCosts(t, "a way that is taken back", build(4, 0, 3, [4]int{0, 1, 1, 0}, [4]int{0, 2, 1, 10}, [4]int{1, 2, 1, 1}, [4]int{1, 3, 1, 10}, [4]int{2, 3, 1, 0}), 0, 1, 20)
	// Node 5 is in no way from Source to Sink, and an arc without cost leads to it.
	checkCosts(t, "nodes beside the ways", build(7, 0, 1, [4]int{0, 1, 1, 9}, [4]int{0, 5, 4, 0}, [4]int{5, 6, 4, 1000}, [4]int{4, 1, 4, 0}, [4]int{3, 4, 4, 1000}), 0, 9)
}

// P13.2: all networks of two nodes with up to three arcs, for all amounts.
func TestAllOfTwoNodes(t *testing.T) {
	var kinds [][4]int
	for _, cost := range []int{0, 2, mostCost} {
		for most := 1; most <= 2; most++ {
			kinds = append(kinds, [4]int{0, 0, most, cost}, [4]int{0, 1, most, cost}, [4]int{1, 0, most, cost}, [4]int{1, 1, most, cost})
		}
	}
	for count := range 4 {
		for chosen := range lists(0, slices.Repeat([]int{len(kinds) - 1}, count)...) {
			var arcs [][4]int
			var units []int // the Costs of the units that may be sent, the least first
			for _, i := range chosen {
				arcs = append(arcs, kinds[i])
				if kinds[i][0] == 1 && kinds[i][1] == 0 {
					units = append(units, slices.Repeat([]int{kinds[i][3]}, kinds[i][2])...)
				}
			}
			slices.Sort(units)
			n := build(2, 1, 0, arcs...)
			checkSolved(t, fmt.Sprint(n), n, 0)
			want := 0
			for i, cost := range units {
				want += cost
				if got := checkSolved(t, fmt.Sprint(n), n, i+1); got != want {
					t.Errorf("%v: %d cost %d, want %d", n, i+1, got, want)
				}
			}
			checkNone(t, fmt.Sprint(n), n, len(units)+1, api.ErrInfeasible)
		}
	}
}

// P13.2: small random networks, for all amounts, compared with all flows.
func TestRandomNetworks(t *testing.T) {
	r := rand.New(rand.NewSource(5))
	sent := 0
	for range 2500 {
		n := randomNetwork(r, 2+r.Intn(4), r.Intn(9), 2, []int{0, 1, 3, mostCost}[r.Intn(4)])
		costs := leastCosts(n)
		for amount := 0; ; amount++ {
			want, ok := costs[amount]
			if !ok {
				checkNone(t, fmt.Sprint(n), n, amount, api.ErrInfeasible)
				break
			}
			if got := checkSolved(t, fmt.Sprint(n), n, amount); got != want {
				t.Errorf("%v: %d cost %d, want %d", n, amount, got, want)
			}
			sent += amount
		}
	}
	if sent < 1500 {
		t.Errorf("%d units were sent", sent)
	}
}

// P13.2: random networks of every size, for some amounts.
func TestLargeRandomNetworks(t *testing.T) {
	r := rand.New(rand.NewSource(6))
	costly := 0
	for range 40 {
		nodes, arcs := 2+r.Intn(mostNodes-1), r.Intn(mostArcs+1)
		n := randomNetwork(r, nodes, arcs, []int{1, 16, mostCap}[r.Intn(3)], []int{0, 1, mostCost}[r.Intn(3)])
		most := greatest(n)
		for _, amount := range []int{0, most / 1000, most / 2, most} {
			if checkSolved(t, fmt.Sprintf("%d nodes and %d arcs", nodes, arcs), n, amount) > 0 {
				costly++
			}
		}
		checkNone(t, "too much", n, most+1, api.ErrInfeasible)
	}
	if costly < 20 {
		t.Errorf("%d costs are above 0", costly)
	}
}

// P13.2: the errors, in their order.
func TestErrors(t *testing.T) {
	row := build(3, 0, 2, [4]int{0, 1, 5, 1}, [4]int{1, 2, 4, 1})
	for _, amount := range []int{-1, -2, -5, -1 << 31, -1 << 32, math.MinInt} {
		checkNone(t, "an amount below 0", row, amount, api.ErrArg)
		checkNone(t, "an amount below 0 and no way", build(2, 0, 1), amount, api.ErrArg)
		checkNone(t, "an amount below 0 that a flow has", build(2, 1, 0, [4]int{0, 1, 5, 1}), amount, api.ErrArg)
	}
	for _, amount := range []int{5, 6, 10, 1 << 31, 1 << 32, 1<<32 + 4, 1 << 62, math.MaxInt} {
		checkNone(t, "too much", row, amount, api.ErrInfeasible)
	}
	checkLeast(t, "the greatest amount", row, 4, 8)
	// What is not valid here comes first, also where layer 12 has nothing against it.
	row.Arcs[1].Cost = 1001
	for _, amount := range []int{math.MinInt, -1, 0, 4, 5, math.MaxInt} {
		checkNone(t, "a Cost that is too high", row, amount, api.ErrArg)
	}
	row.Arcs[1].Cost, row.Arcs[1].Cap = 1000, mostCap+1
	for _, amount := range []int{math.MinInt, -1, 0, 4, 5, math.MaxInt} {
		checkNone(t, "a Cap that is too great", row, amount, api.ErrArg)
	}
}
