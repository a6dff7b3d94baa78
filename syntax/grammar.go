package syntax

import (
	"drydock/api"
	"drydock/fraction"
)

// source reads a whole text.
func (p *parser) source() api.Source {
	var s api.Source
	p.require("extent")
	s.Extent = p.number()
	p.require(";")
	s.Laws = declared(p, "law", p.law)
	s.Models = declared(p, "model", p.model)
	s.Nodes = p.nodes(nil, api.LevelSite)
	s.Policies = declared(p, "policy", p.policy)
	s.Volumes = declared(p, "volume", p.volume)
	p.take(api.TokenEnd)
	return s
}

// declared reads declarations that begin with a word, as many as there are.
func declared[T any](p *parser, word string, read func() T) []T {
	var list []T
	for p.accept(word) {
		list = append(list, read())
	}
	return list
}

func (p *parser) law() api.SourceLaw {
	name := p.take(api.TokenName)
	law := api.Law{Name: name.Text}
	p.require("{", "start")
	law.Start = p.fracs()
	p.require(";", "rates")
	law.Rates = [][]api.Frac{p.fracs()}
	for p.accept(",") {
		law.Rates = append(law.Rates, p.fracs())
	}
	p.require(";", "exit")
	law.Exit = p.fracs()
	p.require(";", "}")
	return api.SourceLaw{Law: law, Pos: name.Pos}
}

func (p *parser) model() api.SourceModel {
	name := p.take(api.TokenName)
	m := api.SourceModel{Name: name.Text, Pos: name.Pos}
	p.require("{", "extents")
	m.Extents = p.number()
	p.require(";", "port")
	m.Port = p.number()
	p.require(";", "law")
	m.Law = p.name()
	p.require(";", "}")
	return m
}

// nodes appends the nodes of a level to a list, each with all that is in it behind it.
func (p *parser) nodes(list []api.SourceNode, level int) []api.SourceNode {
	for p.accept(levelWords[level]) {
		if level == api.Levels {
			list = append(list, p.drive())
			continue
		}
		list = append(list, p.domain(level))
		p.require("{")
		list = p.nodes(list, level+1)
		p.require("}")
	}
	return list
}

// domain reads the head of a domain.
func (p *parser) domain(level int) api.SourceNode {
	name := p.take(api.TokenName)
	n := api.SourceNode{Level: level, Name: name.Text, Shock: zero(), Pos: name.Pos}
	p.require("uplink")
	n.Uplink = p.number()
	if p.accept("shock") {
		n.Shock = p.frac()
	}
	return n
}

func (p *parser) drive() api.SourceNode {
	name := p.take(api.TokenName)
	model := p.name()
	p.require(";")
	return api.SourceNode{Level: api.Levels, Name: name.Text, Shock: zero(), Model: model, Pos: name.Pos}
}

func (p *parser) policy() api.SourcePolicy {
	name := p.take(api.TokenName)
	d := api.SourcePolicy{Name: name.Text, Pos: name.Pos}
	p.require("{", "code")
	d.K = p.number()
	p.require("+")
	d.M = p.number()
	p.require(";", "quorum")
	d.Quorum = p.number()
	p.require(";")
	d.Spread = p.bounds()
	p.require("on")
	d.Models = p.names()
	p.require(";", "repair")
	d.Repair = p.fracs()
	p.require(";", "target")
	d.Target = p.frac()
	p.require("in")
	d.Horizon = p.frac()
	p.require(";", "}")
	return d
}

// bounds reads the bounds of a policy.
func (p *parser) bounds() [api.Levels]int {
	var bounds [api.Levels]int
	// A bound of 0 is one as well, so the bounds do not tell which of them were given.
	var given [api.Levels]bool
	for p.accept("most") {
		bound, word := p.number(), p.token()
		level := p.level()
		if given[level] {
			p.fail(api.ErrDuplicate, word)
		}
		bounds[level], given[level] = bound, true
		p.require(";")
	}
	return bounds
}

// level reads the word of a level of domains.
func (p *parser) level() int {
	for level := api.LevelSite; level <= api.LevelMachine; level++ {
		if p.accept(levelWords[level]) {
			return level
		}
	}
	p.fail(api.ErrSyntax, p.token())
	return api.LevelFleet
}

func (p *parser) volume() api.SourceVolume {
	name := p.take(api.TokenName)
	policy := p.name()
	p.require(";")
	return api.SourceVolume{Name: name.Text, Policy: policy, Pos: name.Pos}
}

// zero returns 0 in lowest terms.
func zero() api.Frac {
	x, _ := fraction.Make(0, 1)
	return x
}
