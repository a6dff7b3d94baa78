package mincost_test

import (
	"fmt"
	"math/rand"
	"slices"
	"testing"

	"drydock/api"
)

// P13.2: the greatest amount and the greatest cost of all.
func TestGreatestAmount(t *testing.T) {
	const most, dearest = 2500000000, 2500000000000
	n := build(mostNodes, 5, 699, slices.Repeat([][4]int{{5, 699, mostCap, mostCost}}, mostArcs)...)
	for _, amount := range []int{0, 1, mostCap, most - 1} {
		checkLeast(t, "all arcs to Sink", n, amount, amount*mostCost)
	}
	checkLeast(t, "all arcs to Sink", n, most, dearest)
	checkNone(t, "one more", n, most+1, api.ErrInfeasible)
	wide := build(mostNodes, 0, 699)
	for i := range mostArcs / 2 {
		node := 1 + i%698
		wide.Arcs = append(wide.Arcs, build(700, 0, 1, [4]int{0, node, mostCap, mostCost}, [4]int{node, 699, mostCap, mostCost}).Arcs...)
	}
	checkLeast(t, "arcs over all other nodes", wide, most/2, dearest)
	checkNone(t, "one more", wide, most/2+1, api.ErrInfeasible)
}

// P13.2: rows of nodes: as few and as many as there may be, with the least and the greatest Costs, and with a dear way beside them.
func TestRow(t *testing.T) {
	for _, nodes := range []int{2, 3, 4, 5, 10, 64, 65, 256, 257, 699, 700} {
		for _, cost := range []int{0, 1, 999, 1000} {
			for _, most := range []int{1, 2, 3, mostCap} {
				n := build(nodes, 0, nodes-1)
				for i := range nodes - 1 {
					n.Arcs = append(n.Arcs, api.Arc{From: i, To: i + 1, Cap: most, Cost: cost})
				}
				name := fmt.Sprintf("a row of %d", nodes)
				checkLeast(t, name, n, most, most*cost*(nodes-1))
				checkNone(t, name, n, most+1, api.ErrInfeasible)
				n.Arcs = append(n.Arcs, api.Arc{From: 0, To: nodes - 1, Cap: most, Cost: mostCost})
				way := cost * (nodes - 1)
				checkLeast(t, name+" with an arc beside it", n, most, most*min(way, mostCost))
				checkLeast(t, name+" with an arc beside it", n, 2*most, most*(way+mostCost))
			}
		}
	}
}

// P13.2: parallel arcs of all Costs, filled in the order of their Costs.
func TestArcsOfAllCosts(t *testing.T) {
	for _, most := range []int{1, 3, mostCap} {
		n := build(3, 2, 0)
		for i := range mostArcs - 1 {
			n.Arcs = append(n.Arcs, api.Arc{From: 2, To: 1, Cap: most, Cost: i * 7 % (mostCost + 1)})
		}
		n.Arcs = append(n.Arcs, api.Arc{From: 1, To: 0, Cap: mostCap, Cost: 1})
		for _, amount := range []int{0, 1, most, 2*most + 1, 1000 * most, 2499 * most} {
			if amount > mostCap {
				checkNone(t, "arcs of all Costs", n, amount, api.ErrInfeasible)
				continue
			}
			want, left := amount, amount // one for each unit on the last arc, and what the units before it cost
			for cost := 0; left > 0; cost++ {
				part := 0
				for _, a := range n.Arcs[:mostArcs-1] {
					if a.Cost == cost {
						part += most
					}
				}
				want += cost * min(part, left)
				left -= min(part, left)
			}
			if got := checkSolved(t, "arcs of all Costs", n, amount); got != want {
				t.Errorf("arcs of all Costs: %d cost %d, want %d", amount, got, want)
			}
		}
	}
}

// grid returns a network of side * side nodes with arcs to the right and down, and with arcs from Source and to Sink beside them.
func grid(r *rand.Rand, side, greatestCap, greatestCost int) api.Network {
	n := build(side*side, 0, side*side-1)
	arc := func(from, to int) {
		n.Arcs = append(n.Arcs, api.Arc{From: from, To: to, Cap: r.Intn(greatestCap + 1), Cost: r.Intn(greatestCost + 1)})
	}
	for i := range side * side {
		if i%side < side-1 {
			arc(i, i+1)
		}
		if i/side < side-1 {
			arc(i, i+side)
		}
	}
	for len(n.Arcs) < mostArcs-1 {
		arc(0, r.Intn(n.Nodes))
		arc(r.Intn(n.Nodes), n.Sink)
	}
	return n
}

// P13.2: grids, whose arcs are nearly all in use at the greatest amount.
func TestGrids(t *testing.T) {
	r := rand.New(rand.NewSource(7))
	for _, side := range []int{2, 5, 26} {
		for _, most := range []int{1, 20, mostCap} {
			for _, cost := range []int{0, 1, mostCost} {
				n := grid(r, side, most, cost)
				for _, amount := range []int{greatest(n), greatest(n) / 2, 1} {
					checkSolved(t, fmt.Sprintf("a grid of %d", side), n, amount)
				}
			}
		}
	}
}

// P13.2: a network whose cheapest ways to Sink have very many costs. With each of them flow is taken back from arcs that were filled before (Zadeh's networks); where a Cost is too high for one arc, a row of arcs has it.
func TestManyCosts(t *testing.T) {
	for sides := 2; sides <= 16; sides++ {
		n := build(2+2*sides, 0, 1)
		arc := func(from, to, most, cost int) {
			for cost > mostCost {
				n.Arcs = append(n.Arcs, api.Arc{From: from, To: n.Nodes, Cap: most, Cost: mostCost})
				from, cost = n.Nodes, cost-mostCost
				n.Nodes++
			}
			n.Arcs = append(n.Arcs, api.Arc{From: from, To: to, Cap: most, Cost: cost})
		}
		for i := range sides {
			arc(0, 2+i, 1<<i, 0)
			arc(2+sides+i, 1, 1<<i, 0)
			for j := range sides {
				if cost := 1<<max(i, j) - 1; i != j && n.Nodes+cost/mostCost < mostNodes {
					arc(2+i, 2+sides+j, mostCap, cost)
				}
			}
		}
		for _, amount := range []int{greatest(n), greatest(n) / 3, 1} {
			checkSolved(t, fmt.Sprint("costs of ", sides, " digits"), n, amount)
		}
	}
}

// P13.2: goods that are brought from 49 nodes to 49 others.
func TestTransport(t *testing.T) {
	r := rand.New(rand.NewSource(8))
	const side = 49
	for _, most := range []int{1, 12, mostCap} {
		for _, cost := range []int{1, mostCost} {
			n := build(2+2*side, 0, 1)
			for i := range side {
				n.Arcs = append(n.Arcs, build(2, 0, 1, [4]int{0, 2 + i, most, 0}, [4]int{2 + side + i, 1, most, 0}).Arcs...)
				for j := range side {
					n.Arcs = append(n.Arcs, api.Arc{From: 2 + i, To: 2 + side + j, Cap: r.Intn(most + 1), Cost: r.Intn(cost + 1)})
				}
			}
			for _, amount := range []int{greatest(n), greatest(n) * 9 / 10, 1} {
				checkSolved(t, "goods", n, amount)
			}
		}
	}
}
