package fleet

import (
	"drydock/api"
	"drydock/lexer"
)

// names are the names that were declared, each with the number of those before it.
type names map[string]int

// compiler builds a fleet from declarations in their order, up to the first error.
type compiler struct {
	fleet                  api.Fleet
	laws, models, policies names
	open                   [api.Levels]int // the index of the last domain of each level
	deepest                int             // the greatest level that the next node may have
	err                    api.Errno       // the first error
	pos                    api.Pos         // the place of the last declaration that was looked at
}

// source compiles all that s declares.
func (c *compiler) source(s api.Source) {
	c.fleet.Extent = s.Extent
	c.fleet.Domains = []api.Domain{{Parent: -1, Shock: number(0)}}
	c.laws = declare(c, s.Laws, func(d api.SourceLaw) (string, api.Pos) { return d.Law.Name, d.Pos }, c.law)
	c.models = declare(c, s.Models, func(d api.SourceModel) (string, api.Pos) { return d.Name, d.Pos }, c.model)
	declare(c, s.Nodes, func(n api.SourceNode) (string, api.Pos) { return n.Name, n.Pos }, c.node)
	c.policies = declare(c, s.Policies, func(d api.SourcePolicy) (string, api.Pos) { return d.Name, d.Pos }, c.policy)
	declare(c, s.Volumes, func(d api.SourceVolume) (string, api.Pos) { return d.Name, d.Pos }, c.volume)
}

// declare compiles the declarations of one kind and returns their names.
func declare[T any](c *compiler, list []T, head func(d T) (string, api.Pos), compile func(d T) api.Errno) names {
	known := names{}
	for _, d := range list {
		if c.err != api.OK {
			break
		}
		name, pos := head(d)
		c.pos, c.err = pos, known.add(name)
		if c.err == api.OK {
			c.err = compile(d)
		}
	}
	return known
}

// add declares a name.
func (n names) add(name string) api.Errno {
	if !lexer.IsName(name) {
		return api.ErrArg
	}
	if _, known := n[name]; known {
		return api.ErrDuplicate
	}
	n[name] = len(n)
	return api.OK
}

func (c *compiler) law(d api.SourceLaw) api.Errno {
	if !ValidLaw(d.Law) {
		return api.ErrArg
	}
	c.fleet.Laws = append(c.fleet.Laws, lowestLaw(d.Law))
	return api.OK
}

func (c *compiler) model(d api.SourceModel) api.Errno {
	law, known := c.laws[d.Law]
	if !known {
		return api.ErrName
	}
	m := api.Model{Name: d.Name, Extents: d.Extents, Port: d.Port, Law: law}
	if !hasExtentsAndPort(m) {
		return api.ErrRange
	}
	c.fleet.Models = append(c.fleet.Models, m)
	return api.OK
}

func (c *compiler) node(n api.SourceNode) api.Errno {
	if !isWithin(n.Level, api.LevelSite, c.deepest) {
		return api.ErrArg
	}
	// A drive contains nothing, so that it changes nothing for the next node.
	c.deepest = min(n.Level+1, api.Levels)
	if n.Level == api.Levels {
		return c.drive(n)
	}
	return c.domain(n)
}

func (c *compiler) domain(n api.SourceNode) api.Errno {
	if !isRate(n.Uplink) {
		return api.ErrRange
	}
	if !isAmount(n.Shock) || n.Model != "" {
		return api.ErrArg
	}
	c.open[n.Level] = len(c.fleet.Domains)
	c.fleet.Domains = append(c.fleet.Domains, api.Domain{Name: n.Name, Level: n.Level, Parent: c.open[n.Level-1], Uplink: n.Uplink, Shock: lowest(n.Shock)})
	return api.OK
}

func (c *compiler) drive(n api.SourceNode) api.Errno {
	model, known := c.models[n.Model]
	if !known {
		return api.ErrName
	}
	if n.Uplink != 0 || !hasValue(n.Shock, 0) {
		return api.ErrArg
	}
	c.fleet.Drives = append(c.fleet.Drives, api.Drive{Name: n.Name, Model: model, Machine: c.open[api.LevelMachine]})
	return api.OK
}

func (c *compiler) policy(d api.SourcePolicy) api.Errno {
	p := api.Policy{
		Name: d.Name, K: d.K, M: d.M, Quorum: d.Quorum, Spread: d.Spread,
		Repair: lowestRow(d.Repair), Target: lowest(d.Target), Horizon: lowest(d.Horizon),
	}
	if !hasCodeAndBounds(p) {
		return api.ErrRange
	}
	if len(d.Models) == 0 {
		return api.ErrArg
	}
	for _, name := range d.Models {
		model, known := c.models[name]
		if !known {
			return api.ErrName
		}
		p.Models = append(p.Models, model)
	}
	if !areDistinct(p.Models) {
		return api.ErrDuplicate
	}
	if !hasRepairAndTarget(p) {
		return api.ErrRange
	}
	c.fleet.Policies = append(c.fleet.Policies, p)
	return api.OK
}

func (c *compiler) volume(d api.SourceVolume) api.Errno {
	policy, known := c.policies[d.Policy]
	if !known {
		return api.ErrName
	}
	c.fleet.Volumes = append(c.fleet.Volumes, api.Volume{Name: d.Name, Policy: policy})
	return api.OK
}
