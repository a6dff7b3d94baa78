package testfleet

import (
	"slices"
	"strconv"

	"drydock/api"
)

// Clone returns a copy of f. The limbs of numbers are not copied.
func Clone(f api.Fleet) api.Fleet {
	f.Laws, f.Models, f.Domains = slices.Clone(f.Laws), slices.Clone(f.Models), slices.Clone(f.Domains)
	f.Drives, f.Policies, f.Volumes = slices.Clone(f.Drives), slices.Clone(f.Policies), slices.Clone(f.Volumes)
	for i, l := range f.Laws {
		f.Laws[i].Start, f.Laws[i].Rates, f.Laws[i].Exit = slices.Clone(l.Start), slices.Clone(l.Rates), slices.Clone(l.Exit)
		for j, row := range l.Rates {
			f.Laws[i].Rates[j] = slices.Clone(row)
		}
	}
	for i, p := range f.Policies {
		f.Policies[i].Models, f.Policies[i].Repair = slices.Clone(p.Models), slices.Clone(p.Repair)
	}
	return f
}

// Disguise returns f with other values of everything that does not bear on where fragments may lie: names, laws, ports, uplinks, shocks, quorums, durability, the order of allowed models, and the form of fractions.
func Disguise(f api.Fleet) api.Fleet {
	f = Clone(f)
	half := api.Frac{Num: api.Nat{4, 0}, Den: api.Nat{8, 0}}
	name := func(i int) string { return "x" + strconv.Itoa(i) }
	f.Extent = api.MaxExtent
	for i := range f.Laws {
		f.Laws[i].Name, f.Laws[i].Exit[0] = name(i), half
	}
	for i := range f.Models {
		f.Models[i].Name, f.Models[i].Port = name(i), api.MaxRate
	}
	for i := range f.Domains[1:] {
		f.Domains[i+1].Name, f.Domains[i+1].Uplink, f.Domains[i+1].Shock = name(i), api.MaxRate, half
	}
	for i := range f.Drives {
		f.Drives[i].Name = name(len(f.Domains) + i)
	}
	for i, p := range f.Policies {
		slices.Reverse(p.Models)
		f.Policies[i].Name, f.Policies[i].Quorum = name(i), p.K+p.M
		f.Policies[i].Repair[0], f.Policies[i].Target, f.Policies[i].Horizon = half, half, half
	}
	for i := range f.Volumes {
		f.Volumes[i].Name = name(i)
	}
	return f
}
