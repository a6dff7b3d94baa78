package feasible_test

import (
	"slices"

	"drydock/api"
	"drydock/testfleet"
	"drydock/topology"
)

// The tests say in the words of the chapter, apart from the program, what the placement network is, which cuts prove something, and which layouts there are.

// sumOfAll is the sum of all n(v).
func sumOfAll(f api.Fleet) int {
	sum := 0
	for v := range f.Volumes {
		sum += testfleet.Fragments(f, v)
	}
	return sum
}

// bound is the Cap of an arc to a volume in a domain.
func bound(f api.Fleet, v, i int) int {
	if most := f.Policies[f.Volumes[v].Policy].Spread[f.Domains[i].Level]; most > 0 {
		return most
	}
	return testfleet.Fragments(f, v)
}

// network is Network.
func network(f api.Fleet, room []int) api.Network {
	V, D := len(f.Volumes), len(f.Domains)
	in := func(v, i int) int {
		if i == 0 {
			return 2 + v
		}
		return 2 + V + v*(D-1) + i - 1
	}
	out := api.Network{Nodes: 2 + V*D + len(f.Drives), Source: 0, Sink: 1}
	for v := range f.Volumes {
		out.Arcs = append(out.Arcs, api.Arc{From: 0, To: 2 + v, Cap: testfleet.Fragments(f, v)})
		for i := 1; i < D; i++ {
			out.Arcs = append(out.Arcs, api.Arc{From: in(v, f.Domains[i].Parent), To: in(v, i), Cap: bound(f, v, i)})
		}
		for d, drive := range f.Drives {
			if testfleet.Allows(f, v, d) {
				out.Arcs = append(out.Arcs, api.Arc{From: in(v, drive.Machine), To: 2 + V*D + d, Cap: 1})
			}
		}
	}
	for d, extents := range topology.Room(f, room) {
		out.Arcs = append(out.Arcs, api.Arc{From: 2 + V*D + d, To: 1, Cap: extents})
	}
	return out
}

// proves is CheckCut for a fleet that is valid: it adds up what may cross the cut, without the network.
func proves(f api.Fleet, room []int, c api.Cut) bool {
	if len(c.Volumes) != len(f.Volumes) || len(c.Domains) != len(f.Volumes) || len(c.Drives) != len(f.Drives) {
		return false
	}
	for _, row := range c.Domains {
		if len(row) != len(f.Domains)-1 {
			return false
		}
	}
	return capacity(f, room, c) < sumOfAll(f)
}

// capacity is the capacity of a cut of the right shape.
func capacity(f api.Fleet, room []int, c api.Cut) int {
	sum := 0
	for v := range f.Volumes {
		inside := append([]bool{c.Volumes[v]}, c.Domains[v]...)
		if !inside[0] {
			sum += testfleet.Fragments(f, v)
		}
		for i, d := range f.Domains {
			if i > 0 && inside[d.Parent] && !inside[i] {
				sum += bound(f, v, i)
			}
		}
		for d, drive := range f.Drives {
			if testfleet.Allows(f, v, d) && inside[drive.Machine] && !c.Drives[d] {
				sum++
			}
		}
	}
	for d, extents := range topology.Room(f, room) {
		if c.Drives[d] {
			sum += extents
		}
	}
	return sum
}

// exists reports whether there is a layout that holds. It tries all of them, but for the order of fragments in a row.
func exists(f api.Fleet, room []int) bool {
	return completes(f, room, nil, topology.Room(f, room))
}

// completes reports whether some rows for the first volumes are the beginning of a layout that holds, if the drives have so much room left.
func completes(f api.Fleet, room []int, l api.Layout, left []int) bool {
	if len(l) == len(f.Volumes) {
		return topology.Holds(f, l, room)
	}
	alone := f
	alone.Volumes = f.Volumes[len(l) : len(l)+1]
	for set := range 1 << len(f.Drives) {
		rest, row := slices.Clone(left), []int(nil)
		for d := range f.Drives {
			if set>>d&1 == 1 {
				row, rest[d] = append(row, d), rest[d]-1
			}
		}
		if len(row) == testfleet.Fragments(f, len(l)) && slices.Min(rest) >= 0 && topology.Holds(alone, api.Layout{row}, nil) {
			if completes(f, room, append(slices.Clone(l), row), rest) {
				return true
			}
		}
	}
	return false
}

// flowOf is the flow of a layout in the placement network: on each arc the number of fragments that go along it.
func flowOf(f api.Fleet, l api.Layout, room []int) []int {
	var flow []int
	loads := make([]int, len(f.Drives))
	for v, row := range l {
		flow = append(flow, testfleet.Fragments(f, v))
		for i := 1; i < len(f.Domains); i++ {
			drives, inside := topology.Drives(f, i), 0
			for _, d := range row {
				if slices.Contains(drives, d) {
					inside++
				}
			}
			flow = append(flow, inside)
		}
		for d := range f.Drives {
			lies := 0
			if slices.Contains(row, d) {
				lies = 1
			}
			loads[d] += lies
			if testfleet.Allows(f, v, d) {
				flow = append(flow, lies)
			}
		}
	}
	return append(flow, loads...)
}
