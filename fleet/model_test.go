package fleet_test

import (
	"math/big"
	"regexp"
	"slices"

	"drydock/api"
)

// The tests say in the words of the chapter, apart from the program, what is valid and what the results are.

var named = regexp.MustCompile(`\A[A-Za-z][-.0-9A-Za-z]{0,15}\z`)

// small reports whether x is a valid fraction from least to most whose Num and Den in lowest terms are below 2^32. A negative most is no bound.
func small(x api.Frac, least, most int64) bool {
	v, ok := value(x)
	return ok && v.Cmp(big.NewRat(least, 1)) >= 0 && (most < 0 || v.Cmp(big.NewRat(most, 1)) <= 0) && v.Num().BitLen() <= 32 && v.Denom().BitLen() <= 32
}

// isNothing reports whether x is a valid fraction with the value 0.
func isNothing(x api.Frac) bool {
	return small(x, 0, 0)
}

// lawful is ValidLaw.
func lawful(l api.Law) bool {
	n := len(l.Start)
	if n < 1 || n > 4 || len(l.Exit) != n || len(l.Rates) != n {
		return false
	}
	all := append(slices.Clone(l.Start), l.Exit...)
	for i, row := range l.Rates {
		if len(row) != n || !isNothing(row[i]) {
			return false
		}
		all = append(all, row...)
	}
	sum := new(big.Rat)
	for i, x := range all {
		if !small(x, 0, -1) {
			return false
		}
		if v, _ := value(x); i < n {
			sum.Add(sum, v)
		}
	}
	return sum.Cmp(big.NewRat(1, 1)) == 0 && !slices.ContainsFunc(reached(l), func(any bool) bool { return !any })
}

// reached reports for each phase whether an end can be reached from it: what can be reached in any number of steps is collected phase by phase.
func reached(l api.Law) []bool {
	out := make([]bool, len(l.Start))
	for i := range out {
		seen, next := map[int]bool{}, []int{i}
		for len(next) > 0 {
			phase := next[0]
			next = next[1:]
			if seen[phase] {
				continue
			}
			seen[phase] = true
			out[i] = out[i] || !isNothing(l.Exit[phase])
			for k, rate := range l.Rates[phase] {
				if !isNothing(rate) {
					next = append(next, k)
				}
			}
		}
	}
	return out
}

// within reports whether all numbers are from least to most.
func within(least, most int, list ...int) bool {
	for _, n := range list {
		if n < least || n > most {
			return false
		}
	}
	return true
}

// goodNumbers reports whether K, M, Quorum and Spread are as P10.2 says.
func goodNumbers(k, m, quorum int, spread [5]int) bool {
	return within(1, 6, k) && within(0, 4, m) && k+m <= 8 && within(k, k+m, quorum) && spread[0] == 0 && within(0, 8, spread[1:]...)
}

// goodFractions reports whether Repair, Target and Horizon are as P10.2 says.
func goodFractions(m int, repair []api.Frac, target, horizon api.Frac) bool {
	want := m
	if m == 0 {
		want = 1
	}
	for _, x := range repair {
		if !small(x, 0, -1) || isNothing(x) {
			return false
		}
	}
	return len(repair) == want && small(target, 0, 1) && small(horizon, 0, -1)
}

// valid is Validate.
func valid(f api.Fleet) bool {
	ok := within(1, 4, f.Extent) && len(f.Laws) <= 4 && len(f.Models) <= 4 && len(f.Domains) <= 40 && len(f.Drives) <= 24 && len(f.Policies) <= 4 && len(f.Volumes) <= 12
	if !ok || len(f.Domains) == 0 {
		return false
	}
	used := map[string]bool{}
	name := func(kind, s string) {
		ok = ok && named.MatchString(s) && !used[kind+s]
		used[kind+s] = true
	}
	need := func(condition bool) { ok = ok && condition }
	for _, l := range f.Laws {
		name("law ", l.Name)
		need(lawful(l))
	}
	for _, m := range f.Models {
		name("model ", m.Name)
		need(within(1, 16, m.Extents) && within(1, 64, m.Port) && within(0, len(f.Laws)-1, m.Law))
	}
	root := f.Domains[0]
	need(root.Name == "" && root.Level == 0 && root.Parent == -1 && root.Uplink == 0 && isNothing(root.Shock))
	for i, d := range f.Domains {
		if i > 0 {
			name("node ", d.Name)
			need(within(0, i-1, d.Parent) && f.Domains[d.Parent].Level == d.Level-1 && within(1, 4, d.Level) && within(1, 64, d.Uplink) && small(d.Shock, 0, -1))
		}
	}
	for _, d := range f.Drives {
		name("node ", d.Name)
		need(within(0, len(f.Models)-1, d.Model) && within(0, len(f.Domains)-1, d.Machine) && f.Domains[d.Machine].Level == 4)
	}
	for _, p := range f.Policies {
		name("policy ", p.Name)
		need(goodNumbers(p.K, p.M, p.Quorum, p.Spread) && goodFractions(p.M, p.Repair, p.Target, p.Horizon))
		need(len(p.Models) > 0 && within(0, len(f.Models)-1, p.Models...))
		for i, x := range p.Models {
			need(!slices.Contains(p.Models[:i], x))
		}
	}
	for _, v := range f.Volumes {
		name("volume ", v.Name)
		need(within(0, len(f.Policies)-1, v.Policy))
	}
	return ok
}

// reduced returns x in lowest terms.
func reduced(x api.Frac) api.Frac {
	v, _ := value(x)
	return frac(v)
}

func reducedRow(list []api.Frac) []api.Frac {
	var out []api.Frac
	for _, x := range list {
		out = append(out, reduced(x))
	}
	return out
}

func reducedLaw(l api.Law) api.Law {
	out := api.Law{Name: l.Name, Start: reducedRow(l.Start), Exit: reducedRow(l.Exit)}
	for _, row := range l.Rates {
		out.Rates = append(out.Rates, reducedRow(row))
	}
	return out
}

// trail returns the indices of the domains from domain 0 to a domain.
func trail(f api.Fleet, domain int) []int {
	if domain < 0 {
		return nil
	}
	return append(trail(f, f.Domains[domain].Parent), domain)
}

// depthFirst returns the nodes of f (drives behind all domains) in depth-first order: that of their trails.
func depthFirst(f api.Fleet) []int {
	var list []int
	trails := map[int][]int{}
	for i := range f.Domains[1:] {
		list = append(list, i+1)
		trails[i+1] = trail(f, i+1)
	}
	for i, d := range f.Drives {
		node := len(f.Domains) + i
		list = append(list, node)
		trails[node] = append(trail(f, d.Machine), node)
	}
	slices.SortFunc(list, func(a, b int) int { return slices.Compare(trails[a], trails[b]) })
	return list
}

// described is Source.
func described(f api.Fleet) (api.Source, api.Errno) {
	if !valid(f) {
		return api.Source{}, api.ErrArg
	}
	s := api.Source{Extent: f.Extent}
	for _, l := range f.Laws {
		s.Laws = append(s.Laws, api.SourceLaw{Law: reducedLaw(l)})
	}
	for _, m := range f.Models {
		s.Models = append(s.Models, api.SourceModel{Name: m.Name, Extents: m.Extents, Port: m.Port, Law: f.Laws[m.Law].Name})
	}
	for _, i := range depthFirst(f) {
		if i >= len(f.Domains) {
			d := f.Drives[i-len(f.Domains)]
			s.Nodes = append(s.Nodes, api.SourceNode{Level: 5, Name: d.Name, Shock: ratio(0, 1), Model: f.Models[d.Model].Name})
			continue
		}
		d := f.Domains[i]
		s.Nodes = append(s.Nodes, api.SourceNode{Level: d.Level, Name: d.Name, Uplink: d.Uplink, Shock: reduced(d.Shock)})
	}
	for _, p := range f.Policies {
		d := api.SourcePolicy{Name: p.Name, K: p.K, M: p.M, Quorum: p.Quorum, Spread: p.Spread, Repair: reducedRow(p.Repair), Target: reduced(p.Target), Horizon: reduced(p.Horizon)}
		for _, i := range p.Models {
			d.Models = append(d.Models, f.Models[i].Name)
		}
		s.Policies = append(s.Policies, d)
	}
	for _, v := range f.Volumes {
		s.Volumes = append(s.Volumes, api.SourceVolume{Name: v.Name, Policy: f.Policies[v.Policy].Name})
	}
	return s, api.OK
}
