// Package testfleet builds fleets for the tests of the layers. The program itself does not use it.
package testfleet

import (
	"slices"
	"strconv"

	"drydock/api"
	"drydock/fleet"
	"drydock/fraction"
)

// Ratio returns a fraction of two numbers that make one.
func Ratio(num, den int64) api.Frac {
	x, err := fraction.Make(num, den)
	if err != api.OK {
		panic("no fraction")
	}
	return x
}

// Policy returns a policy of a code with bounds for the levels 1 to 4.
func Policy(k, m int, spread [4]int, models ...int) api.Policy {
	p := api.Policy{K: k, M: m, Quorum: k, Models: slices.Clone(models), Target: Ratio(1, 9), Horizon: Ratio(2, 1)}
	copy(p.Spread[1:], spread[:])
	for range max(m, 1) {
		p.Repair = append(p.Repair, Ratio(1, 2))
	}
	return p
}

// Build returns a fleet of domains with these parents (those of domain 1 and on), of models with these numbers of extents, of these drives and policies, and of a volume for each of some policies.
func Build(parents, extents []int, drives []api.Drive, policies []api.Policy, volumes ...int) api.Fleet {
	f := api.Fleet{Extent: 1, Domains: []api.Domain{{Parent: -1, Shock: Ratio(0, 1)}}}
	f.Laws = []api.Law{{Name: "law", Start: []api.Frac{Ratio(1, 1)}, Rates: [][]api.Frac{{Ratio(0, 1)}}, Exit: []api.Frac{Ratio(1, 5)}}}
	for i, n := range extents {
		f.Models = append(f.Models, api.Model{Name: "m" + strconv.Itoa(i), Extents: n, Port: 1})
	}
	for i, parent := range parents {
		level := f.Domains[parent].Level + 1
		f.Domains = append(f.Domains, api.Domain{Name: "c" + strconv.Itoa(i+1), Level: level, Parent: parent, Uplink: 1, Shock: Ratio(int64(i), 7)})
	}
	for i, d := range drives {
		d.Name = "d" + strconv.Itoa(i)
		f.Drives = append(f.Drives, d)
	}
	for i, p := range policies {
		p.Name, p.Models, p.Repair = "p"+strconv.Itoa(i), slices.Clone(p.Models), slices.Clone(p.Repair)
		f.Policies = append(f.Policies, p)
	}
	for i, p := range volumes {
		f.Volumes = append(f.Volumes, api.Volume{Name: "v" + strconv.Itoa(i), Policy: p})
	}
	if fleet.Validate(f) != api.OK {
		panic("a fleet of the tests is not valid")
	}
	return f
}
