package mincost_test

import (
	"iter"
	"math"
	"math/rand"
	"slices"
	"testing"

	"drydock/api"
	"drydock/mincost"
)

// The bounds of networks and potentials, written out.
const (
	mostNodes     = 700
	mostArcs      = 2500
	mostCap       = 1000000
	mostCost      = 1000
	mostPotential = 1000000000
)

// build returns a network of arcs, each with the node that it leads from, the node that it leads to, its Cap and its Cost.
func build(nodes, source, sink int, arcs ...[4]int) api.Network {
	n := api.Network{Nodes: nodes, Source: source, Sink: sink}
	for _, a := range arcs {
		n.Arcs = append(n.Arcs, api.Arc{From: a[0], To: a[1], Cap: a[2], Cost: a[3]})
	}
	return n
}

// randomNetwork returns a valid network with so many nodes and arcs, and with Caps and Costs up to greatest ones.
func randomNetwork(r *rand.Rand, nodes, arcs, greatestCap, greatestCost int) api.Network {
	ends := r.Perm(nodes)
	n := build(nodes, ends[0], ends[1])
	for range arcs {
		n.Arcs = append(n.Arcs, api.Arc{From: r.Intn(nodes), To: r.Intn(nodes), Cap: r.Intn(greatestCap + 1), Cost: r.Intn(greatestCost + 1)})
	}
	return n
}

// renumbered returns a network with other numbers for its nodes and another order of its arcs.
func renumbered(r *rand.Rand, n api.Network) api.Network {
	number, place := r.Perm(n.Nodes), r.Perm(len(n.Arcs))
	out := build(n.Nodes, number[n.Source], number[n.Sink])
	for _, i := range place {
		a := n.Arcs[i]
		out.Arcs = append(out.Arcs, api.Arc{From: number[a.From], To: number[a.To], Cap: a.Cap, Cost: a.Cost})
	}
	return out
}

// lists returns all lists of as many numbers as most has, each from least to that of most.
func lists(least int, most ...int) iter.Seq[[]int] {
	return func(yield func([]int) bool) {
		if len(most) == 0 {
			yield(nil)
			return
		}
		for list := range lists(least, most[1:]...) {
			for first := least; first <= most[0]; first++ {
				if !yield(append([]int{first}, list...)) {
					return
				}
			}
		}
	}
}

// caps returns the Caps of the arcs of a network: the greatest list that may be a flow.
func caps(n api.Network) []int {
	var out []int
	for _, a := range n.Arcs {
		out = append(out, a.Cap)
	}
	return out
}

// checkCost checks the result of Cost.
func checkCost(t *testing.T, name string, n api.Network, flow []int, want int, isFlow bool) {
	t.Helper()
	if got, ok := mincost.Cost(n, flow); got != want || ok != isFlow {
		t.Errorf("%s: Cost of %.80v: %d, %t, want %d, %t", name, flow, got, ok, want, isFlow)
	}
}

// checkCheck checks the result of Check.
func checkCheck(t *testing.T, name string, n api.Network, amount int, flow, potentials []int, want bool) {
	t.Helper()
	if got := mincost.Check(n, amount, flow, potentials); got != want {
		t.Errorf("%s: Check of %d, %.80v, %.80v: %t", name, amount, flow, potentials, got)
	}
}

// checkSolved checks that Solve returns a flow of a value, its cost and potentials for it, and returns the cost. That there are potentials proves that it is the least one (P13.4).
func checkSolved(t *testing.T, name string, n api.Network, amount int) int {
	t.Helper()
	flow, cost, potentials, err := mincost.Solve(n, amount)
	if err != api.OK {
		t.Errorf("%s: Solve for %d returns the error %d", name, amount, err)
	}
	if !fits(n, amount, flow, potentials) {
		t.Errorf("%s: Solve for %d returns %.80v and %.80v, which do not fit", name, amount, flow, potentials)
	} else if want := sum(n, flow); cost != want {
		t.Errorf("%s: Solve for %d returns the cost %d, want %d", name, amount, cost, want)
	}
	checkCost(t, name, n, flow, cost, true)
	checkCheck(t, name, n, amount, flow, potentials, true)
	if !mincost.Valid(n) {
		t.Errorf("%s: Valid returns false", name)
	}
	return cost
}

// checkNone checks that Solve returns an error and empty results.
func checkNone(t *testing.T, name string, n api.Network, amount int, want api.Errno) {
	t.Helper()
	flow, cost, potentials, err := mincost.Solve(n, amount)
	if len(flow) != 0 || cost != 0 || len(potentials) != 0 || err != want {
		t.Errorf("%s: Solve for %d returns %.80v, %d, %.80v, %d, want the error %d", name, amount, flow, cost, potentials, err, want)
	}
}

// checkRefused checks that all functions refuse a network, whatever else they get.
func checkRefused(t *testing.T, name string, n api.Network) {
	t.Helper()
	if mincost.Valid(n) {
		t.Errorf("%s: Valid returns true", name)
	}
	flow, potentials := make([]int, len(n.Arcs)), make([]int, max(0, min(n.Nodes, mostNodes+2)))
	for _, list := range [][]int{flow, nil} {
		checkCost(t, name, n, list, 0, false)
		checkCheck(t, name, n, 0, list, potentials, false)
		checkCheck(t, name, n, 0, list, nil, false)
	}
	for _, amount := range []int{0, 1, -1, math.MinInt, math.MaxInt} {
		checkNone(t, name, n, amount, api.ErrArg)
	}
}

// checkAnyNetwork checks what the functions say of a network that may be valid.
func checkAnyNetwork(t *testing.T, name string, n api.Network) {
	t.Helper()
	if valid(n) {
		checkSolved(t, name, n, 0)
	} else {
		checkRefused(t, name, n)
	}
}

// numbers returns numbers that may not be those of nodes.
func numbers() []int {
	return []int{math.MinInt, -1 << 32, -mostNodes, -2, -1, mostNodes, mostNodes + 1, 1 << 32, math.MaxInt}
}

// with returns a list with another number in one place.
func with(list []int, place, number int) []int {
	out := slices.Clone(list)
	out[place] = number
	return out
}
