package fleet_test

import (
	"slices"

	"drydock/api"
)

// judge goes through the errors that Compile may return, in their order, and keeps the first one that applies.
type judge struct {
	err api.Errno
	pos api.Pos // the place of the declaration
	at  api.Pos // the place of the error
}

func (j *judge) when(wrong bool, err api.Errno) {
	if wrong && j.err == api.OK {
		j.err, j.at = err, j.pos
	}
}

// head examines the name of a declaration. before are the names of the earlier ones of its kind.
func (j *judge) head(name string, before []string, pos api.Pos) {
	j.pos = pos
	j.when(!named.MatchString(name), api.ErrArg)
	j.when(slices.Contains(before, name), api.ErrDuplicate)
}

// namesOf returns the names of declarations.
func namesOf[T any](list []T, name func(d T) string) []string {
	var out []string
	for _, d := range list {
		out = append(out, name(d))
	}
	return out
}

func lawNames(list []api.SourceLaw) []string {
	return namesOf(list, func(d api.SourceLaw) string { return d.Law.Name })
}

func modelNames(list []api.SourceModel) []string {
	return namesOf(list, func(d api.SourceModel) string { return d.Name })
}

func nodeNames(list []api.SourceNode) []string {
	return namesOf(list, func(d api.SourceNode) string { return d.Name })
}

func policyNames(list []api.SourcePolicy) []string {
	return namesOf(list, func(d api.SourcePolicy) string { return d.Name })
}

func volumeNames(list []api.SourceVolume) []string {
	return namesOf(list, func(d api.SourceVolume) string { return d.Name })
}

// lastBefore returns the index of the last node before the index i that a condition holds for, or -1.
func lastBefore(nodes []api.SourceNode, i int, holds func(level int) bool) int {
	for i--; i >= 0 && !holds(nodes[i].Level); i-- {
	}
	return i
}

// allowed reports whether the node at an index may stand there, in the words of P9.5.
func allowed(nodes []api.SourceNode, i int) bool {
	level := nodes[i].Level
	if level == 1 {
		return true
	}
	last := lastBefore(nodes, i, func(l int) bool { return l < level })
	return last >= 0 && nodes[last].Level == level-1 && (level != 5 || nodes[last].Level == 4)
}

// verdict returns the error of Compile.
func verdict(s api.Source) (api.Errno, api.Pos) {
	var j judge
	j.when(!within(1, 4, s.Extent), api.ErrRange)
	domains, drives := 1, 0
	for _, n := range s.Nodes {
		if n.Level == 5 {
			drives++
		} else if within(1, 4, n.Level) {
			domains++
		}
	}
	j.when(len(s.Laws) > 4 || len(s.Models) > 4 || domains > 40 || drives > 24 || len(s.Policies) > 4 || len(s.Volumes) > 12, api.ErrSize)
	for i, d := range s.Laws {
		j.head(d.Law.Name, lawNames(s.Laws[:i]), d.Pos)
		j.when(!lawful(d.Law), api.ErrArg)
	}
	for i, d := range s.Models {
		j.head(d.Name, modelNames(s.Models[:i]), d.Pos)
		j.when(!slices.Contains(lawNames(s.Laws), d.Law), api.ErrName)
		j.when(!within(1, 16, d.Extents) || !within(1, 64, d.Port), api.ErrRange)
	}
	for i, n := range s.Nodes {
		j.head(n.Name, nodeNames(s.Nodes[:i]), n.Pos)
		j.when(!within(1, 5, n.Level) || !allowed(s.Nodes, i), api.ErrArg)
		if n.Level == 5 {
			j.when(!slices.Contains(modelNames(s.Models), n.Model), api.ErrName)
			j.when(n.Uplink != 0 || !isNothing(n.Shock), api.ErrArg)
			continue
		}
		j.when(!within(1, 64, n.Uplink), api.ErrRange)
		j.when(!small(n.Shock, 0, -1) || n.Model != "", api.ErrArg)
	}
	for i, d := range s.Policies {
		j.head(d.Name, policyNames(s.Policies[:i]), d.Pos)
		j.policy(d, modelNames(s.Models))
	}
	for i, d := range s.Volumes {
		j.head(d.Name, volumeNames(s.Volumes[:i]), d.Pos)
		j.when(!slices.Contains(policyNames(s.Policies), d.Policy), api.ErrName)
	}
	return j.err, j.at
}

func (j *judge) policy(d api.SourcePolicy, models []string) {
	j.when(!goodNumbers(d.K, d.M, d.Quorum, d.Spread), api.ErrRange)
	j.when(len(d.Models) == 0, api.ErrArg)
	for _, name := range d.Models {
		j.when(!slices.Contains(models, name), api.ErrName)
	}
	for i, name := range d.Models {
		j.when(slices.Contains(d.Models[:i], name), api.ErrDuplicate)
	}
	j.when(!goodFractions(d.M, d.Repair, d.Target, d.Horizon), api.ErrRange)
}

// model returns what Compile should return.
func model(s api.Source) answer {
	if err, pos := verdict(s); err != api.OK {
		return answer{err: err, pos: pos}
	}
	f := api.Fleet{Extent: s.Extent, Domains: []api.Domain{{Parent: -1, Shock: ratio(0, 1)}}}
	for _, d := range s.Laws {
		f.Laws = append(f.Laws, reducedLaw(d.Law))
	}
	for _, d := range s.Models {
		f.Models = append(f.Models, api.Model{Name: d.Name, Extents: d.Extents, Port: d.Port, Law: slices.Index(lawNames(s.Laws), d.Law)})
	}
	numbers := map[int]int{-1: 0} // the domains of the nodes; before the first node is domain 0
	for i, n := range s.Nodes {
		above := numbers[lastBefore(s.Nodes, i, func(l int) bool { return l == n.Level-1 })]
		if n.Level == 5 {
			f.Drives = append(f.Drives, api.Drive{Name: n.Name, Model: slices.Index(modelNames(s.Models), n.Model), Machine: above})
			continue
		}
		numbers[i] = len(f.Domains)
		f.Domains = append(f.Domains, api.Domain{Name: n.Name, Level: n.Level, Parent: above, Uplink: n.Uplink, Shock: reduced(n.Shock)})
	}
	for _, d := range s.Policies {
		p := api.Policy{Name: d.Name, K: d.K, M: d.M, Quorum: d.Quorum, Spread: d.Spread, Repair: reducedRow(d.Repair), Target: reduced(d.Target), Horizon: reduced(d.Horizon)}
		for _, name := range d.Models {
			p.Models = append(p.Models, slices.Index(modelNames(s.Models), name))
		}
		f.Policies = append(f.Policies, p)
	}
	for _, d := range s.Volumes {
		f.Volumes = append(f.Volumes, api.Volume{Name: d.Name, Policy: slices.Index(policyNames(s.Policies), d.Policy)})
	}
	return answer{fleet: f}
}
