package maxflow_test

import (
	"math"
	"slices"

	"drydock/api"
)

// The tests say in the words of the chapter, apart from the program, what is valid, a flow and a cut.

// valid is Valid.
func valid(n api.Network) bool {
	if n.Nodes < 2 || n.Nodes > mostNodes || len(n.Arcs) > mostArcs || n.Source == n.Sink {
		return false
	}
	nodes := []int{n.Source, n.Sink}
	for _, a := range n.Arcs {
		nodes = append(nodes, a.From, a.To)
		if a.Cap < 0 || a.Cap > mostCap {
			return false
		}
	}
	return slices.Min(nodes) >= 0 && slices.Max(nodes) <= n.Nodes-1
}

// sums returns the sum of a list over the arcs that lead from a node, and over those that lead to it.
func sums(n api.Network, list []int, node int) (from, to int) {
	for i, a := range n.Arcs {
		if a.From == node {
			from += list[i]
		}
		if a.To == node {
			to += list[i]
		}
	}
	return from, to
}

// valueOf is Value for valid networks.
func valueOf(n api.Network, flow []int) (int, bool) {
	if len(flow) != len(n.Arcs) {
		return 0, false
	}
	for i, a := range n.Arcs {
		if flow[i] < 0 || flow[i] > a.Cap {
			return 0, false
		}
	}
	for node := range n.Nodes {
		if from, to := sums(n, flow, node); from != to && node != n.Source && node != n.Sink {
			return 0, false
		}
	}
	from, to := sums(n, flow, n.Source)
	return from - to, true
}

// capacityOf is Capacity for valid networks.
func capacityOf(n api.Network, cut []bool) (int, bool) {
	if len(cut) != n.Nodes || !cut[n.Source] || cut[n.Sink] {
		return 0, false
	}
	sum := 0
	for node, side := range cut {
		for _, a := range n.Arcs {
			if a.From == node && side && !cut[a.To] {
				sum += a.Cap
			}
		}
	}
	return sum, true
}

// leastCut returns the least capacity of all cuts of a small network.
func leastCut(n api.Network) int {
	least := math.MaxInt
	for cut := range choices(n.Nodes) {
		if capacity, ok := capacityOf(n, cut); ok {
			least = min(least, capacity)
		}
	}
	return least
}

// greatestFlow returns the greatest value of all flows of a network with few and small Caps.
func greatestFlow(n api.Network) int {
	greatest := math.MinInt
	for flow := range lists(0, caps(n)) {
		if value, ok := valueOf(n, flow); ok {
			greatest = max(greatest, value)
		}
	}
	return greatest
}
