package transition_test

import (
	"slices"

	"drydock/api"
	"drydock/feasible"
	"drydock/mincost"
	"drydock/testfleet"
	"drydock/topology"
)

// The tests say in the words of the chapter, apart from the program, how many elements differ, what the network of a transition costs, which transitions are accepted, and how few fragments can be moved.

// moved is Moved.
func moved(a, b api.Layout) int {
	if len(a) != len(b) {
		return -1
	}
	places := map[[3]int]int{}
	for side, l := range []api.Layout{a, b} {
		for v, row := range l {
			if len(row) != len(a[v]) {
				return -1
			}
			for i, drive := range row {
				places[[3]int{v, i, drive}] |= 1 << side
			}
		}
	}
	differ := 0
	for _, sides := range places {
		if sides == 1 {
			differ++
		}
	}
	return differ
}

// end says what a node of the placement network stands for: the kind is that of its first letter.
type end struct {
	kind                  byte // s for Source, t for Sink, v for a volume, i for a volume in a domain, d for a drive
	volume, domain, drive int
}

// endOf takes the number of a node apart, as P14.1 says.
func endOf(f api.Fleet, node int) end {
	V, D := len(f.Volumes), len(f.Domains)
	switch {
	case node == 0:
		return end{kind: 's'}
	case node == 1:
		return end{kind: 't'}
	case node < 2+V:
		return end{kind: 'v', volume: node - 2}
	case node < 2+V*D:
		return end{kind: 'i', volume: (node - 2 - V) / (D - 1), domain: (node-2-V)%(D-1) + 1}
	}
	return end{kind: 'd', drive: node - 2 - V*D}
}

// network is Network for a fleet that is valid and a layout that is Shaped.
func network(f api.Fleet, now api.Layout, room []int) api.Network {
	n, _ := feasible.Network(f, room)
	for i, a := range n.Arcs {
		from, to := endOf(f, a.From), endOf(f, a.To)
		if from.kind == 'i' && to.kind == 'd' && !slices.Contains(now[from.volume], to.drive) {
			n.Arcs[i].Cost = 1
		}
	}
	return n
}

// flowOf is the flow of a layout that holds.
func flowOf(f api.Fleet, l api.Layout, n api.Network) []int {
	loads := topology.Loads(f, l)
	var flow []int
	for _, a := range n.Arcs {
		from, to := endOf(f, a.From), endOf(f, a.To)
		sent := 0
		switch {
		case from.kind == 's':
			sent = testfleet.Fragments(f, to.volume)
		case to.kind == 't':
			sent = loads[from.drive]
		case to.kind == 'd' && slices.Contains(l[from.volume], to.drive):
			sent = 1
		case to.kind == 'i':
			drives := topology.Drives(f, to.domain)
			for _, drive := range l[to.volume] {
				if slices.Contains(drives, drive) {
					sent++
				}
			}
		}
		flow = append(flow, sent)
	}
	return flow
}

// accepted is Check for a fleet that is valid and a layout that is Shaped.
func accepted(f api.Fleet, now api.Layout, room []int, t api.Transition) bool {
	if !topology.Holds(f, t.Final, room) || t.Moved != moved(now, t.Final) {
		return false
	}
	n, amount, cost := network(f, now, room), 0, 0
	for v := range f.Volumes {
		amount += testfleet.Fragments(f, v)
	}
	flow := flowOf(f, t.Final, n)
	for i, a := range n.Arcs {
		cost += flow[i] * a.Cost
	}
	return mincost.Check(n, amount, flow, t.Potentials) && t.Moved == cost
}

// fewest returns the least number of places at which now differs from a layout that holds, or -1 if there is none. It tries all rows of a volume, and puts together those whose drives have room.
func fewest(f api.Fleet, now api.Layout, room []int) int {
	options := make([][]option, len(f.Volumes))
	for v := range f.Volumes {
		options[v] = optionsOf(f, v, now[v])
	}
	return fewestOf(options, topology.Room(f, room))
}

// option is a set of drives for a volume, and at how few places a row of them differs from the row of now.
type option struct {
	drives []int
	moved  int
}

// optionsOf returns the sets of drives that one volume may have.
func optionsOf(f api.Fleet, v int, row []int) []option {
	alone := f
	alone.Volumes = f.Volumes[v : v+1]
	var out []option
	for set := range 1 << len(f.Drives) {
		var drives []int
		for d := range f.Drives {
			if set>>d&1 == 1 {
				drives = append(drives, d)
			}
		}
		if len(drives) == len(row) && topology.Holds(alone, api.Layout{drives}, nil) {
			out = append(out, option{drives: drives, moved: fewestOrder(row, drives)})
		}
	}
	return out
}

// fewestOrder returns at how few places a row differs from the drives in any order.
func fewestOrder(row, drives []int) int {
	if len(row) == 0 {
		return 0
	}
	least := len(row)
	for i, drive := range drives {
		rest, differs := slices.Delete(slices.Clone(drives), i, i+1), 1
		if row[0] == drive {
			differs = 0
		}
		least = min(least, differs+fewestOrder(row[1:], rest))
	}
	return least
}

// fewestOf chooses one option for each volume, so that the drives have room for all.
func fewestOf(options [][]option, left []int) int {
	if len(options) == 0 {
		return 0
	}
	least := -1
	for _, o := range options[0] {
		rest := slices.Clone(left)
		for _, d := range o.drives {
			rest[d]--
		}
		if len(rest) == 0 || slices.Min(rest) >= 0 {
			if others := fewestOf(options[1:], rest); others >= 0 && (least < 0 || o.moved+others < least) {
				least = o.moved + others
			}
		}
	}
	return least
}
