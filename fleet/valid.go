package fleet

import (
	"drydock/api"
	"drydock/lexer"
)

// isValid reports whether f is valid.
func isValid(f api.Fleet) bool {
	return isExtent(f.Extent) && sizesOfFleet(f).fit() &&
		areDomains(f.Domains) && areNamed(f) &&
		all(f.Laws, ValidLaw) &&
		all(f.Models, func(m api.Model) bool { return hasExtentsAndPort(m) && isIndex(m.Law, f.Laws) }) &&
		all(f.Drives, func(d api.Drive) bool { return isIndex(d.Model, f.Models) && isMachine(d.Machine, f.Domains) }) &&
		all(f.Policies, func(p api.Policy) bool {
			return hasCodeAndBounds(p) && areChosen(p.Models, f.Models) && hasRepairAndTarget(p)
		}) &&
		all(f.Volumes, func(v api.Volume) bool { return isIndex(v.Policy, f.Policies) })
}

// areDomains reports whether the list is a tree of domains, whatever their names are.
func areDomains(list []api.Domain) bool {
	if len(list) == 0 || !isRoot(list[0]) {
		return false
	}
	for i, d := range list[1:] {
		before := list[:i+1]
		if !isDomainLevel(d.Level) || !isRate(d.Uplink) || !isAmount(d.Shock) ||
			!isIndex(d.Parent, before) || before[d.Parent].Level != d.Level-1 {
			return false
		}
	}
	return true
}

// isRoot reports whether d is as domain 0 has to be.
func isRoot(d api.Domain) bool {
	return d.Name == "" && d.Level == api.LevelFleet && d.Parent == -1 && d.Uplink == 0 && hasValue(d.Shock, 0)
}

// isMachine reports whether a domain exists and is a machine.
func isMachine(domain int, list []api.Domain) bool {
	return isIndex(domain, list) && list[domain].Level == api.LevelMachine
}

// areChosen reports whether a policy may allow these models.
func areChosen(chosen []int, models []api.Model) bool {
	return len(chosen) > 0 && areDistinct(chosen) && all(chosen, func(i int) bool { return isIndex(i, models) })
}

// areNamed reports whether all parts of f that have to have a name have one of their own. f has a domain 0, which has none.
func areNamed(f api.Fleet) bool {
	nodes := append(
		convert(f.Domains[1:], func(d api.Domain) string { return d.Name }),
		convert(f.Drives, func(d api.Drive) string { return d.Name })...)
	return areNames(nodes) &&
		areNames(convert(f.Laws, func(l api.Law) string { return l.Name })) &&
		areNames(convert(f.Models, func(m api.Model) string { return m.Name })) &&
		areNames(convert(f.Policies, func(p api.Policy) string { return p.Name })) &&
		areNames(convert(f.Volumes, func(v api.Volume) string { return v.Name }))
}

// areNames reports whether a list consists of different names.
func areNames(list []string) bool {
	return all(list, lexer.IsName) && areDistinct(list)
}
