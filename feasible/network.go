package feasible

import (
	"cmp"
	"slices"

	"drydock/api"
	"drydock/topology"
)

// The first nodes of a placement network.
const (
	source = iota
	sink
	firstVolume
)

// Behind the volumes stand the nodes of volume 0 in each domain but domain 0, then those of volume 1, and so on, and at last the drives.

func nodeOfVolume(v int) int {
	return firstVolume + v
}

// nodeInDomain returns the node of a volume in a domain. What is in domain 0 is all of the volume.
func nodeInDomain(f api.Fleet, v, domain int) int {
	if domain == 0 {
		return nodeOfVolume(v)
	}
	return nodeOfVolume(len(f.Volumes)) + v*(len(f.Domains)-1) + domain - 1
}

func nodeOfDrive(f api.Fleet, drive int) int {
	return nodeOfVolume(len(f.Volumes)*len(f.Domains)) + drive
}

// networkOf returns the placement network of a fleet that is valid: the fragments of each volume go down its own copy of the tree, and the copies meet in the drives.
func networkOf(f api.Fleet, room []int) api.Network {
	n := api.Network{Nodes: nodeOfDrive(f, len(f.Drives)), Source: source, Sink: sink}
	add := func(from, to, most int) {
		n.Arcs = append(n.Arcs, api.Arc{From: from, To: to, Cap: most})
	}
	for v, volume := range f.Volumes {
		p := f.Policies[volume.Policy]
		add(source, nodeOfVolume(v), rows(p))
		for i, d := range f.Domains[1:] {
			add(nodeInDomain(f, v, d.Parent), nodeInDomain(f, v, i+1), cmp.Or(p.Spread[d.Level], rows(p)))
		}
		for i, d := range f.Drives {
			if slices.Contains(p.Models, d.Model) {
				add(nodeInDomain(f, v, d.Machine), nodeOfDrive(f, i), 1)
			}
		}
	}
	for i, most := range topology.Room(f, room) {
		add(nodeOfDrive(f, i), sink, most)
	}
	return n
}

// layoutOf returns the layout of a flow that brings all fragments to drives.
func layoutOf(f api.Fleet, n api.Network, flow []int) api.Layout {
	var out api.Layout
	for i, a := range n.Arcs {
		if a.From == source {
			// The arcs of a volume begin here.
			out = append(out, nil)
		}
		if drive := a.To - nodeOfDrive(f, 0); drive >= 0 && flow[i] > 0 {
			last := len(out) - 1
			out[last] = append(out[last], drive)
		}
	}
	return out
}
