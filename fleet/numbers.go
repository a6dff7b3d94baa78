package fleet

import (
	"drydock/api"
	"drydock/erasure"
)

// sizes says how many parts of each kind a fleet has.
type sizes struct{ laws, models, domains, drives, policies, volumes int }

// fit reports whether a fleet may have so many parts.
func (n sizes) fit() bool {
	return n.laws <= api.MaxLaws && n.models <= api.MaxModels && n.domains <= api.MaxDomains &&
		n.drives <= api.MaxDrives && n.policies <= api.MaxPolicies && n.volumes <= api.MaxVolumes
}

// sizesOfSource counts the parts of the fleet that s describes. Nodes of other levels than there are do not count.
func sizesOfSource(s api.Source) sizes {
	n := sizes{laws: len(s.Laws), models: len(s.Models), domains: 1, policies: len(s.Policies), volumes: len(s.Volumes)}
	for _, node := range s.Nodes {
		switch {
		case isDomainLevel(node.Level):
			n.domains++
		case node.Level == api.Levels:
			n.drives++
		}
	}
	return n
}

func sizesOfFleet(f api.Fleet) sizes {
	return sizes{len(f.Laws), len(f.Models), len(f.Domains), len(f.Drives), len(f.Policies), len(f.Volumes)}
}

func isWithin(n, least, most int) bool {
	return n >= least && n <= most
}

func isExtent(n int) bool {
	return isWithin(n, 1, api.MaxExtent)
}

// isDomainLevel reports whether a level is that of the domains below the fleet.
func isDomainLevel(level int) bool {
	return isWithin(level, api.LevelSite, api.LevelMachine)
}

func isRate(n int) bool {
	return isWithin(n, 1, api.MaxRate)
}

// hasExtentsAndPort reports whether the numbers of m, but for the index of its law, are in their ranges.
func hasExtentsAndPort(m api.Model) bool {
	return isWithin(m.Extents, 1, api.MaxExtents) && isRate(m.Port)
}

// hasCodeAndBounds reports whether the code, the quorum and the bounds of p are in their ranges.
func hasCodeAndBounds(p api.Policy) bool {
	// No rows are too few for every code, and ErrArg for all other numbers.
	_, err := erasure.Decode(p.K, p.M, nil)
	return err == api.ErrShort && isWithin(p.Quorum, p.K, p.K+p.M) && areBounds(p.Spread)
}

func areBounds(spread [api.Levels]int) bool {
	return spread[api.LevelFleet] == 0 && all(spread[:], func(n int) bool { return isWithin(n, 0, api.MaxFragments) })
}

// hasRepairAndTarget reports whether the repair rates, the target and the horizon of p are in their ranges.
func hasRepairAndTarget(p api.Policy) bool {
	return len(p.Repair) == max(p.M, 1) && all(p.Repair, isPositive) && isProbability(p.Target) && isAmount(p.Horizon)
}
