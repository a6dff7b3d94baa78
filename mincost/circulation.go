package mincost

import (
	"slices"

	"drydock/api"
)

// digits is the number of binary digits of the greatest value of a flow: 2,500 arcs send at most 1,000,000 each.
const digits = 32

// step is a way from one node to another: along an arc, or back along it, which takes flow from the arc and gives back its cost.
type step struct {
	to, room, cost int
}

// circulation is a flow through a network and back from its Sink to its Source, of the least cost.
// At first all Caps are 0. Their binary digits are added one after the other, and each of them leaves little to balance, so that great Caps do not take long.
type circulation struct {
	arcs       []api.Arc // those of the network, and the one back from Sink
	steps      []step    // steps 2 i and 2 i + 1 lead along arc i and back, so that room for one is flow for the other
	from       [][]int   // the steps from each node
	potentials []int     // with them no step with room has a reduced cost below 0
	surplus    []int     // what flows to each node minus what flows from it
	tried      []bool    // nodes that are not asked again to send more with these potentials
}

// cheapest returns a circulation of the least cost in which amount flows back from Sink. The network must have a flow of this value.
func cheapest(n api.Network, amount int) *circulation {
	// No way from Source to Sink has as many arcs as there are nodes, so none costs as much as the arc back gives.
	back := api.Arc{From: n.Sink, To: n.Source, Cap: amount, Cost: -n.Nodes * maxCost}
	c := &circulation{
		arcs:       append(slices.Clone(n.Arcs), back),
		from:       make([][]int, n.Nodes),
		potentials: make([]int, n.Nodes),
		surplus:    make([]int, n.Nodes),
		tried:      make([]bool, n.Nodes),
	}
	for i, a := range c.arcs {
		c.steps = append(c.steps, step{to: a.To, cost: a.Cost}, step{to: a.From, cost: -a.Cost})
		c.from[a.From] = append(c.from[a.From], 2*i)
		c.from[a.To] = append(c.from[a.To], 2*i+1)
	}
	for digit := digits - 1; digit >= 0; digit-- {
		c.refine(digit)
		c.balance()
	}
	return c
}

// reduced returns the reduced cost of a step: its cost plus the potential of the node that it leads from, minus that of the node that it leads to.
func (c *circulation) reduced(i int) int {
	return c.steps[i].cost + c.potentials[c.steps[i^1].to] - c.potentials[c.steps[i].to]
}

// refine doubles the flow and the Caps so far, adds the next binary digit to each Cap, and fills the arcs that have room and a reduced cost below 0.
func (c *circulation) refine(digit int) {
	for i, a := range c.arcs {
		c.steps[2*i].room = 2*c.steps[2*i].room + a.Cap>>digit&1
		c.steps[2*i+1].room *= 2
		if c.reduced(2*i) < 0 {
			c.push(2*i, c.steps[2*i].room)
		}
	}
}

// push lets more flow on a step.
func (c *circulation) push(i, amount int) {
	c.steps[i].room -= amount
	c.steps[i^1].room += amount
	c.surplus[c.steps[i].to] += amount
	c.surplus[c.steps[i^1].to] -= amount
}

// balance lets what nodes have too much flow on to nodes that have too little.
func (c *circulation) balance() {
	for c.approach() {
		clear(c.tried)
		for node, amount := range c.surplus {
			if amount > 0 {
				c.send(node, amount)
			}
		}
	}
}

// send lets at most amount flow on from a node to nodes that have too little, along steps whose reduced cost is 0, and returns how much it was.
func (c *circulation) send(node, amount int) int {
	if c.surplus[node] < 0 {
		return min(amount, -c.surplus[node])
	}
	c.tried[node] = true
	sent := 0
	for _, i := range c.from[node] {
		if s := c.steps[i]; s.room > 0 && c.reduced(i) == 0 && !c.tried[s.to] && sent < amount {
			part := c.send(s.to, min(amount-sent, s.room))
			c.push(i, part)
			sent += part
		}
	}
	// A node that has sent all that it was asked for may send more.
	c.tried[node] = sent < amount
	return sent
}

// flow returns what flows on each arc of the network.
func (c *circulation) flow() []int {
	out := make([]int, len(c.arcs)-1)
	for i := range out {
		out[i] = c.steps[2*i+1].room
	}
	return out
}
