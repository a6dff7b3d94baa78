package fleet

import "drydock/api"

// sourceOf returns the source that declares f, which is valid.
func sourceOf(f api.Fleet) api.Source {
	return api.Source{
		Extent: f.Extent,
		Laws:   convert(f.Laws, func(l api.Law) api.SourceLaw { return api.SourceLaw{Law: lowestLaw(l)} }),
		Models: convert(f.Models, func(m api.Model) api.SourceModel {
			return api.SourceModel{Name: m.Name, Extents: m.Extents, Port: m.Port, Law: f.Laws[m.Law].Name}
		}),
		Nodes:    appendNodes(nil, f, 0),
		Policies: convert(f.Policies, func(p api.Policy) api.SourcePolicy { return sourceOfPolicy(p, f.Models) }),
		Volumes: convert(f.Volumes, func(v api.Volume) api.SourceVolume {
			return api.SourceVolume{Name: v.Name, Policy: f.Policies[v.Policy].Name}
		}),
	}
}

// appendNodes appends all that is in a domain to a list.
func appendNodes(list []api.SourceNode, f api.Fleet, domain int) []api.SourceNode {
	for i, d := range f.Domains {
		if d.Parent == domain {
			node := nodeLike(d)
			node.Shock = lowest(d.Shock)
			list = appendNodes(append(list, node), f, i)
		}
	}
	for _, d := range f.Drives {
		if d.Machine == domain {
			list = append(list, api.SourceNode{Level: api.Levels, Name: d.Name, Shock: number(0), Model: f.Models[d.Model].Name})
		}
	}
	return list
}

func sourceOfPolicy(p api.Policy, models []api.Model) api.SourcePolicy {
	d := policyLike(p)
	d.Models = convert(p.Models, func(i int) string { return models[i].Name })
	d.Repair, d.Target, d.Horizon = lowestRow(p.Repair), lowest(p.Target), lowest(p.Horizon)
	return d
}

// nodeLike returns a node with the fields that it has in common with a domain. Its Shock is still that of the domain.
func nodeLike(d api.Domain) api.SourceNode {
	return api.SourceNode{Level: d.Level, Name: d.Name, Uplink: d.Uplink, Shock: d.Shock}
}

// policyLike is nodeLike for policies.
func policyLike(p api.Policy) api.SourcePolicy {
	return api.SourcePolicy{
		Name: p.Name, K: p.K, M: p.M, Quorum: p.Quorum, Spread: p.Spread,
		Repair: p.Repair, Target: p.Target, Horizon: p.Horizon,
	}
}
