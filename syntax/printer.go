package syntax

import (
	"strconv"

	"drydock/api"
	"drydock/fraction"
)

// printer writes tokens in the canonical form.
type printer struct {
	text []byte
}

// put writes tokens.
func (p *printer) put(tokens ...string) {
	for _, token := range tokens {
		if !p.atLineStart() && token != ";" && token != "," {
			p.text = append(p.text, ' ')
		}
		p.text = append(p.text, token...)
		if token == ";" || token == "{" || token == "}" {
			p.text = append(p.text, '\n')
		}
	}
}

// atLineStart reports whether the next token is the first one of a line.
func (p *printer) atLineStart() bool {
	return len(p.text) == 0 || p.text[len(p.text)-1] == '\n'
}

// fracs writes fractions.
func (p *printer) fracs(list ...api.Frac) {
	for _, x := range list {
		// A text that is too long stays so without the others, and many long numbers take their time.
		if len(p.text) > api.MaxText {
			return
		}
		text, _ := fraction.Format(x)
		p.put(text)
	}
}

// source writes all that s declares.
func (p *printer) source(s api.Source) {
	p.put("extent", strconv.Itoa(s.Extent), ";")
	for _, l := range s.Laws {
		p.law(l.Law)
	}
	for _, m := range s.Models {
		p.put("model", m.Name, "{", "extents", strconv.Itoa(m.Extents), ";", "port", strconv.Itoa(m.Port), ";", "law", m.Law, ";", "}")
	}
	p.nodes(s.Nodes)
	for _, d := range s.Policies {
		p.policy(d)
	}
	for _, v := range s.Volumes {
		p.put("volume", v.Name, v.Policy, ";")
	}
}

func (p *printer) law(l api.Law) {
	p.put("law", l.Name, "{", "start")
	p.fracs(l.Start...)
	p.put(";", "rates")
	for i, row := range l.Rates {
		if i > 0 {
			p.put(",")
		}
		p.fracs(row...)
	}
	p.put(";", "exit")
	p.fracs(l.Exit...)
	p.put(";", "}")
}

// nodes writes the nodes, each domain around all that is in it.
func (p *printer) nodes(list []api.SourceNode) {
	open := api.LevelFleet // the level of the innermost domain that is open
	for _, n := range list {
		for ; open >= n.Level; open-- {
			p.put("}")
		}
		if n.Level == api.Levels {
			p.put("drive", n.Name, n.Model, ";")
			continue
		}
		p.domain(n)
		open = n.Level
	}
	for ; open > api.LevelFleet; open-- {
		p.put("}")
	}
}

// domain writes the head of a domain and opens it.
func (p *printer) domain(n api.SourceNode) {
	p.put(levelWords[n.Level], n.Name, "uplink", strconv.Itoa(n.Uplink))
	if !isZero(n.Shock) {
		p.put("shock")
		p.fracs(n.Shock)
	}
	p.put("{")
}

func (p *printer) policy(d api.SourcePolicy) {
	p.put("policy", d.Name, "{", "code", strconv.Itoa(d.K), "+", strconv.Itoa(d.M), ";", "quorum", strconv.Itoa(d.Quorum), ";")
	for level, bound := range d.Spread {
		if bound != 0 {
			p.put("most", strconv.Itoa(bound), levelWords[level], ";")
		}
	}
	p.put("on")
	p.put(d.Models...)
	p.put(";", "repair")
	p.fracs(d.Repair...)
	p.put(";", "target")
	p.fracs(d.Target)
	p.put("in")
	p.fracs(d.Horizon)
	p.put(";", "}")
}
