package feasible

import (
	"slices"

	"drydock/api"
)

// cutOf returns the sides of the nodes of a placement network by what they stand for.
func cutOf(f api.Fleet, side []bool) api.Cut {
	c := api.Cut{
		Volumes: slices.Clone(side[firstVolume:nodeOfVolume(len(f.Volumes))]),
		Drives:  slices.Clone(side[nodeOfDrive(f, 0):]),
	}
	for v := range f.Volumes {
		first := nodeInDomain(f, v, 1)
		c.Domains = append(c.Domains, slices.Clone(side[first:first+len(f.Domains)-1]))
	}
	return c
}

// sideOf returns the side of each node: the reverse of cutOf.
func sideOf(c api.Cut) []bool {
	ends := make([]bool, firstVolume)
	ends[source] = true
	return slices.Concat(ends, c.Volumes, slices.Concat(c.Domains...), c.Drives)
}

// fits reports whether c speaks of each node of the placement network of f.
func fits(f api.Fleet, c api.Cut) bool {
	if len(c.Volumes) != len(f.Volumes) || len(c.Domains) != len(f.Volumes) || len(c.Drives) != len(f.Drives) {
		return false
	}
	return !slices.ContainsFunc(c.Domains, func(row []bool) bool { return len(row) != len(f.Domains)-1 })
}
