package mincost_test

import (
	"fmt"
	"math/rand"
	"slices"
	"testing"

	"drydock/api"
	"drydock/maxflow"
	"drydock/mincost"
)

// flowsOf returns all flows of a small network by their values.
func flowsOf(n api.Network) map[int][][]int {
	out := map[int][][]int{}
	for flow := range lists(0, caps(n)...) {
		if value, ok := maxflow.Value(n, flow); ok {
			out[value] = append(out[value], slices.Clone(flow))
		}
	}
	return out
}

// P13.4: the potentials that Solve returns fit all flows of the least cost, and no other flow of the same value.
func TestPotentialsOfAllLeastFlows(t *testing.T) {
	r := rand.New(rand.NewSource(9))
	least, others := 0, 0
	for range 1500 {
		n := randomNetwork(r, 2+r.Intn(4), r.Intn(8), 2, []int{1, 3, mostCost}[r.Intn(3)])
		flows := flowsOf(n)
		for amount := 0; len(flows[amount]) > 0; amount++ {
			_, cost, potentials, _ := mincost.Solve(n, amount)
			for _, flow := range flows[amount] {
				isLeast := sum(n, flow) == cost
				checkCheck(t, fmt.Sprint(n), n, amount, flow, potentials, isLeast)
				if isLeast {
					least++
				} else {
					others++
				}
			}
		}
	}
	if least < 1000 || others < 1000 {
		t.Errorf("%d flows have the least cost, %d do not", least, others)
	}
}

// P13.4: if Check holds, whatever the potentials are, no flow of the same value has a lower cost; this holds for values below 0 too.
func TestCheckProves(t *testing.T) {
	r := rand.New(rand.NewSource(10))
	held, below := 0, 0
	for range 1000 {
		n := randomNetwork(r, 2+r.Intn(2), r.Intn(6), 2, 2)
		costs := leastCosts(n)
		for value, flows := range flowsOf(n) {
			for _, flow := range flows {
				for potentials := range lists(-2, slices.Repeat([]int{2}, n.Nodes)...) {
					if !mincost.Check(n, value, flow, potentials) {
						continue
					}
					held++
					if value < 0 {
						below++
					}
					if got := sum(n, flow); got != costs[value] {
						t.Errorf("%v: Check holds for %v and %v, with the cost %d and not %d", n, flow, potentials, got, costs[value])
					}
				}
			}
		}
	}
	if held < 2000 || below < 200 {
		t.Errorf("Check holds %d times, %d times for values below 0", held, below)
	}
}

// P13.4: the difference of the costs is the sum over all arcs of (Cost + p[i] - p[j]) times the difference of the flows, and no term of it is negative.
func TestDifferenceOfCosts(t *testing.T) {
	r := rand.New(rand.NewSource(11))
	terms := 0
	for range 1000 {
		n := randomNetwork(r, 2+r.Intn(4), r.Intn(8), 2, mostCost)
		flows := flowsOf(n)
		for amount := 0; len(flows[amount]) > 0; amount++ {
			best, cost, potentials, _ := mincost.Solve(n, amount)
			for _, flow := range flows[amount] {
				total := 0
				for i, a := range n.Arcs {
					term := reduced(a, potentials) * (flow[i] - best[i])
					if term < 0 {
						t.Errorf("%v: the term of arc %d for %v and %v is %d", n, i, best, flow, term)
					}
					if term > 0 {
						terms++
					}
					total += term
				}
				if sum(n, flow)-cost != total {
					t.Errorf("%v: the cost of %v is %d, that of %v is %d, and the terms are %d", n, flow, sum(n, flow), best, cost, total)
				}
			}
		}
	}
	if terms < 1000 {
		t.Errorf("%d terms are above 0", terms)
	}
}

// P13.4: each further unit costs at least as much as the one before it, and the first one at least nothing.
func TestEachUnitCostsMore(t *testing.T) {
	r := rand.New(rand.NewSource(12))
	units, more := 0, 0
	for range 600 {
		nodes := 2 + r.Intn(20)
		n := randomNetwork(r, nodes, r.Intn(5*nodes), 1+r.Intn(12), []int{1, 10, mostCost}[r.Intn(3)])
		before, unit := 0, 0
		for amount := range greatest(n) + 1 {
			cost := checkSolved(t, fmt.Sprint(n), n, amount)
			if amount == 0 && cost != 0 {
				t.Errorf("%v: nothing costs %d", n, cost)
			}
			if cost-before < unit {
				t.Errorf("%v: unit %d costs %d, and the one before it %d", n, amount, cost-before, unit)
			}
			units++
			if cost-before > unit {
				more++
			}
			before, unit = cost, cost-before
		}
	}
	if units < 1000 || more < 200 {
		t.Errorf("%d units, of which %d cost more than the one before", units, more)
	}
}

// P13.4: with great Caps too, the least cost is a convex function of amount.
func TestConvex(t *testing.T) {
	r := rand.New(rand.NewSource(13))
	curved := 0
	for range 60 {
		nodes := 2 + r.Intn(60)
		n := randomNetwork(r, nodes, 3*nodes+r.Intn(3*nodes), mostCap, mostCost)
		most := greatest(n)
		for range 5 {
			low := r.Intn(most + 1)
			step := r.Intn((most-low)/2 + 1)
			first, second, third := checkSolved(t, "low", n, low), checkSolved(t, "middle", n, low+step), checkSolved(t, "high", n, low+2*step)
			if third-second < second-first {
				t.Errorf("%v: %d more than %d cost %d, and again as much costs %d", n, step, low, second-first, third-second)
			}
			if third-second > second-first {
				curved++
			}
		}
	}
	if curved < 50 {
		t.Errorf("the cost is curved in %d places", curved)
	}
}

// P13.4: the least cost is as great for arcs that are cut in two, side by side or one behind the other, and it grows with the Costs.
func TestSameCost(t *testing.T) {
	r := rand.New(rand.NewSource(14))
	for range 60 {
		nodes := 2 + r.Intn(40)
		n := randomNetwork(r, nodes, 2*nodes+r.Intn(3*nodes), []int{3, mostCap}[r.Intn(2)], 499)
		beside, behind, twice := n, n, n
		beside.Arcs, behind.Arcs, twice.Arcs = nil, nil, nil
		for _, a := range n.Arcs {
			part, cost := r.Intn(a.Cap+1), r.Intn(a.Cost+1)
			beside.Arcs = append(beside.Arcs, api.Arc{From: a.From, To: a.To, Cap: part, Cost: a.Cost}, api.Arc{From: a.From, To: a.To, Cap: a.Cap - part, Cost: a.Cost})
			behind.Arcs = append(behind.Arcs, api.Arc{From: a.From, To: behind.Nodes, Cap: a.Cap, Cost: cost}, api.Arc{From: behind.Nodes, To: a.To, Cap: a.Cap, Cost: a.Cost - cost})
			behind.Nodes++
			twice.Arcs = append(twice.Arcs, api.Arc{From: a.From, To: a.To, Cap: a.Cap, Cost: 2 * a.Cost})
		}
		for _, amount := range []int{0, 1, greatest(n) / 2, greatest(n)} {
			if amount > greatest(n) {
				continue
			}
			cost := checkSolved(t, "as it is", n, amount)
			if got := checkSolved(t, "arcs side by side", beside, amount); got != cost {
				t.Errorf("%v: with arcs side by side %d cost %d, want %d", n, amount, got, cost)
			}
			if got := checkSolved(t, "arcs one behind the other", behind, amount); got != cost {
				t.Errorf("%v: with arcs one behind the other %d cost %d, want %d", n, amount, got, cost)
			}
			if got := checkSolved(t, "Costs twice as high", twice, amount); got != 2*cost {
				t.Errorf("%v: with Costs twice as high %d cost %d, want %d", n, amount, got, 2*cost)
			}
		}
	}
}
