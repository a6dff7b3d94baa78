package maxflow_test

import (
	"iter"
	"math"
	"math/rand"
	"slices"
	"testing"

	"drydock/api"
	"drydock/maxflow"
)

// The bounds of a network, written out.
const (
	mostNodes = 700
	mostArcs  = 2500
	mostCap   = 2147483647
)

// build returns a network of arcs, each with the node that it leads from, the node that it leads to, and its Cap.
func build(nodes, source, sink int, arcs ...[3]int) api.Network {
	n := api.Network{Nodes: nodes, Source: source, Sink: sink}
	for _, a := range arcs {
		n.Arcs = append(n.Arcs, api.Arc{From: a[0], To: a[1], Cap: a[2]})
	}
	return n
}

// randomNetwork returns a valid network with so many nodes and arcs, and with Caps up to a greatest one.
func randomNetwork(r *rand.Rand, nodes, arcs, most int) api.Network {
	n := api.Network{Nodes: nodes, Source: r.Intn(nodes)}
	n.Sink = (n.Source + 1 + r.Intn(nodes-1)) % nodes
	for range arcs {
		n.Arcs = append(n.Arcs, api.Arc{From: r.Intn(nodes), To: r.Intn(nodes), Cap: r.Intn(most + 1)})
	}
	return n
}

// renumbered returns a network with other numbers for its nodes and another order of its arcs.
func renumbered(r *rand.Rand, n api.Network) api.Network {
	number := r.Perm(n.Nodes)
	n.Source, n.Sink, n.Arcs = number[n.Source], number[n.Sink], slices.Clone(n.Arcs)
	for i, a := range n.Arcs {
		n.Arcs[i].From, n.Arcs[i].To = number[a.From], number[a.To]
	}
	r.Shuffle(len(n.Arcs), func(i, j int) { n.Arcs[i], n.Arcs[j] = n.Arcs[j], n.Arcs[i] })
	return n
}

// caps returns the Caps of the arcs of a network: the greatest list that may be a flow.
func caps(n api.Network) []int {
	out := make([]int, len(n.Arcs))
	for i, a := range n.Arcs {
		out[i] = a.Cap
	}
	return out
}

// lists returns all lists whose elements are from least to the elements of most.
func lists(least int, most []int) iter.Seq[[]int] {
	return func(yield func([]int) bool) {
		list := slices.Repeat([]int{least}, len(most))
		for i := 0; i < len(list); {
			if i == 0 && !yield(slices.Clone(list)) {
				return
			}
			// The next list has the first element that can grow one greater, and the least elements before it.
			if list[i]++; list[i] > most[i] {
				list[i] = least
				i++
			} else {
				i = 0
			}
		}
		if len(list) == 0 {
			yield(nil)
		}
	}
}

// choices returns all lists of so many booleans.
func choices(length int) iter.Seq[[]bool] {
	return func(yield func([]bool) bool) {
		for number := range 1 << length {
			list := make([]bool, length)
			for i := range list {
				list[i] = number>>i&1 == 1
			}
			if !yield(list) {
				return
			}
		}
	}
}

// alone returns the cut of so many nodes in which only one is true.
func alone(nodes, node int) []bool {
	out := make([]bool, nodes)
	out[node] = true
	return out
}

// checkValue checks the result of Value.
func checkValue(t *testing.T, name string, n api.Network, flow []int, want int, isFlow bool) {
	t.Helper()
	if got, ok := maxflow.Value(n, flow); got != want || ok != isFlow {
		t.Errorf("%s: Value of %.80v: %d, %t, want %d, %t", name, flow, got, ok, want, isFlow)
	}
}

// checkCapacity checks the result of Capacity.
func checkCapacity(t *testing.T, name string, n api.Network, cut []bool, want int, isCut bool) {
	t.Helper()
	if got, ok := maxflow.Capacity(n, cut); got != want || ok != isCut {
		t.Errorf("%s: Capacity of %.80v: %d, %t, want %d, %t", name, cut, got, ok, want, isCut)
	}
}

// checkSolved checks that Solve returns a flow and a cut of a valid network, both of the value that it returns too, and returns this value.
func checkSolved(t *testing.T, name string, n api.Network) int {
	t.Helper()
	flow, value, cut, err := maxflow.Solve(n)
	if err != api.OK {
		t.Errorf("%s: Solve returns the error %d", name, err)
	}
	if got, ok := valueOf(n, flow); !ok || got != value {
		t.Errorf("%s: the flow of Solve has the value %d, %t, and not %d", name, got, ok, value)
	}
	if got, ok := capacityOf(n, cut); !ok || got != value {
		t.Errorf("%s: the cut of Solve has the capacity %d, %t, and not %d", name, got, ok, value)
	}
	checkValue(t, name, n, flow, value, true)
	checkCapacity(t, name, n, cut, value, true)
	if !maxflow.Valid(n) || !maxflow.Check(n, flow, cut) {
		t.Errorf("%s: the network is not valid, or Check refuses what Solve returns", name)
	}
	return value
}

// checkRefused checks that all functions refuse a network, with lists that may have been a flow and a cut and with none.
func checkRefused(t *testing.T, name string, n api.Network) {
	t.Helper()
	flow, cut := make([]int, len(n.Arcs)), make([]bool, max(0, min(n.Nodes, mostNodes+2)))
	if n.Source >= 0 && n.Source < len(cut) {
		cut[n.Source] = true
	}
	if maxflow.Valid(n) {
		t.Errorf("%s: Valid", name)
	}
	for _, list := range [][]int{flow, nil} {
		checkValue(t, name, n, list, 0, false)
	}
	for _, list := range [][]bool{cut, nil, make([]bool, len(cut))} {
		checkCapacity(t, name, n, list, 0, false)
		if maxflow.Check(n, flow, list) || maxflow.Check(n, nil, list) {
			t.Errorf("%s: Check", name)
		}
	}
	if flow, value, cut, err := maxflow.Solve(n); len(flow) != 0 || value != 0 || len(cut) != 0 || err != api.ErrArg {
		t.Errorf("%s: Solve returns %.80v, %d, %.80v, %d", name, flow, value, cut, err)
	}
}

// numbers returns numbers that may not be those of nodes.
func numbers() []int {
	return []int{math.MinInt, -1 << 32, -mostNodes, -2, -1, mostNodes + 1, 1 << 32, math.MaxInt}
}
