package maxflow

import (
	"slices"

	"drydock/api"
)

// step is a way from one node to another: along an arc, or back along it, which takes flow from the arc.
type step struct {
	to, room int
}

// unreached is the distance of a node to which no steps with room lead.
const unreached = -1

// residual is what a flow leaves of a network. The flow grows along shortest ways only (Dinic's algorithm), so that few rounds are enough, however great the capacities are.
type residual struct {
	source, sink int
	steps        []step  // steps 2 i and 2 i + 1 lead along arc i and back, so that room for one is flow for the other
	from         [][]int // the steps from each node
	untried      [][]int // those of them that may still lead to the sink in this round
	distance     []int   // the least number of steps with room from the source to each node
}

// residualOf returns what the flow that is 0 everywhere leaves of n.
func residualOf(n api.Network) *residual {
	r := &residual{source: n.Source, sink: n.Sink, from: make([][]int, n.Nodes), distance: make([]int, n.Nodes)}
	for i, a := range n.Arcs {
		r.steps = append(r.steps, step{a.To, a.Cap}, step{a.From, 0})
		r.from[a.From] = append(r.from[a.From], 2*i)
		r.from[a.To] = append(r.from[a.To], 2*i+1)
	}
	return r
}

// measure begins a round: it finds the distances of all nodes and reports whether the sink has one.
func (r *residual) measure() bool {
	r.untried = slices.Clone(r.from)
	for i := range r.distance {
		r.distance[i] = unreached
	}
	r.distance[r.source] = 0
	queue := []int{r.source}
	for len(queue) > 0 {
		node := queue[0]
		queue = queue[1:]
		for _, i := range r.from[node] {
			if s := r.steps[i]; s.room > 0 && r.distance[s.to] == unreached {
				r.distance[s.to] = r.distance[node] + 1
				queue = append(queue, s.to)
			}
		}
	}
	return r.distance[r.sink] != unreached
}

// push sends at most amount from a node to the sink, farther from the source with each step, and returns how much it sent.
func (r *residual) push(node, amount int) int {
	if node == r.sink {
		return amount
	}
	sent := 0
	for sent < amount && len(r.untried[node]) > 0 {
		i := r.untried[node][0]
		s := r.steps[i]
		if r.distance[s.to] == r.distance[node]+1 {
			part := r.push(s.to, min(amount-sent, s.room))
			r.steps[i].room -= part
			r.steps[i^1].room += part
			sent += part
		}
		if sent < amount {
			// The step is full, or what it leads to can send no more in this round.
			r.untried[node] = r.untried[node][1:]
		}
	}
	return sent
}

// flow returns what flows on each arc.
func (r *residual) flow() []int {
	out := make([]int, len(r.steps)/2)
	for i := range out {
		out[i] = r.steps[2*i+1].room
	}
	return out
}

// reached reports for each node whether it had a distance when the distances were last measured.
func (r *residual) reached() []bool {
	out := make([]bool, len(r.distance))
	for i, d := range r.distance {
		out[i] = d != unreached
	}
	return out
}
