package mincost_test

import (
	"drydock/api"
	"drydock/maxflow"
)

// The tests say in the words of the chapter, apart from the program, what is valid, what a flow costs, and what are potentials for it. What is valid for layer 12 and what is a flow says layer 12.

// valid is Valid.
func valid(n api.Network) bool {
	if !maxflow.Valid(n) {
		return false
	}
	for _, a := range n.Arcs {
		if !(0 <= a.Cost && a.Cost <= mostCost && a.Cap <= mostCap) {
			return false
		}
	}
	return true
}

// sum is the sum over all arcs of the flow on the arc times its Cost.
func sum(n api.Network, flow []int) int {
	total := 0
	for i := range flow {
		total += flow[i] * n.Arcs[i].Cost
	}
	return total
}

// reduced is Cost + p[i] - p[j] for an arc from i to j.
func reduced(a api.Arc, potentials []int) int {
	return a.Cost + potentials[a.From] - potentials[a.To]
}

// fits is Check for valid networks.
func fits(n api.Network, amount int, flow, potentials []int) bool {
	if value, ok := maxflow.Value(n, flow); !ok || value != amount || len(potentials) != n.Nodes {
		return false
	}
	for _, p := range potentials {
		if !(-mostPotential <= p && p <= mostPotential) {
			return false
		}
	}
	for i, a := range n.Arcs {
		if flow[i] < a.Cap && !(reduced(a, potentials) >= 0) {
			return false
		}
		if flow[i] > 0 && !(reduced(a, potentials) <= 0) {
			return false
		}
	}
	return true
}

// leastCosts returns for the values of all flows of a network with few and small Caps the least cost of such a flow.
func leastCosts(n api.Network) map[int]int {
	least := map[int]int{}
	for flow := range lists(0, caps(n)...) {
		if value, ok := maxflow.Value(n, flow); ok {
			cost := sum(n, flow)
			if known, ok := least[value]; !ok || cost < known {
				least[value] = cost
			}
		}
	}
	return least
}

// greatest returns the greatest value of a flow.
func greatest(n api.Network) int {
	_, value, _, _ := maxflow.Solve(n)
	return value
}
