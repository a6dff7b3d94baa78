package mincost

import (
	"container/heap"
	"math"
	"slices"
)

// reach is a node that a search may visit next, and the reduced cost of the steps by which it would come there.
type reach struct {
	node, cost int
}

// frontier is the heap of what a search may visit next, the least cost first.
type frontier []reach

func (f frontier) Len() int           { return len(f) }
func (f frontier) Less(i, j int) bool { return f[i].cost < f[j].cost }
func (f frontier) Swap(i, j int)      { f[i], f[j] = f[j], f[i] }
func (f *frontier) Push(x any)        { *f = append(*f, x.(reach)) }

// Pop takes the last element, where package heap has put the least one.
func (f *frontier) Pop() any {
	last := len(*f) - 1
	r := (*f)[last]
	*f = (*f)[:last]
	return r
}

// approach changes the potentials so that steps of the reduced cost 0 lead from a node that has too much to one that has too little. It reports whether there are such nodes.
func (c *circulation) approach() bool {
	least := slices.Repeat([]int{math.MaxInt}, len(c.from))
	next := &frontier{}
	for node, amount := range c.surplus {
		if amount > 0 {
			least[node] = 0
			heap.Push(next, reach{node, 0})
		}
	}
	if next.Len() == 0 {
		return false
	}
	c.lower(c.search(least, next))
	return true
}

// search visits nodes, those first to which the steps with room have the least reduced cost, up to one that has too little, and returns them in this order.
// There is always such a node: what a node has too much can be sent back to where it came from.
func (c *circulation) search(least []int, next *frontier) []reach {
	var visited []reach
	for {
		r := heap.Pop(next).(reach)
		if r.cost > least[r.node] {
			continue // it has been visited at its least cost
		}
		visited = append(visited, r)
		if c.surplus[r.node] < 0 {
			return visited
		}
		for _, i := range c.from[r.node] {
			s := c.steps[i]
			if cost := r.cost + c.reduced(i); s.room > 0 && cost < least[s.to] {
				least[s.to] = cost
				heap.Push(next, reach{s.to, cost})
			}
		}
	}
}

// lower lowers the potential of each visited node by as much as the last one costs more.
//
// This keeps all potentials between -100,000,000 and 0, because the least one sinks by less than 2,800,000 for each digit. A visited node now has the potential of a node with too much plus the cost of steps between the two, and the potential of that node is at least the one of a node with too little minus the cost of steps between these two. Nodes with too little have kept their potentials for this digit, and the cost of a way is between -1,400,000 and 1,400,000: it has less than 700 steps, with the arc back at most once.
func (c *circulation) lower(visited []reach) {
	most := visited[len(visited)-1].cost
	for _, r := range visited {
		c.potentials[r.node] -= most - r.cost
	}
}
