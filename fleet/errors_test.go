package fleet_test

import (
	"math"
	"strings"
	"testing"

	"drydock/api"
)

// fault is a change of the sample, and the error that it leads to. The error belongs to the declaration with the name at, or to none. Two faults of the same part cannot be put in together.
type fault struct {
	part, at string
	err      api.Errno
	change   func(s *api.Source)
}

// lawFaults are the errors of the laws, in their order.
var lawFaults = []fault{
	{"law 0 name", "law wear", api.ErrArg, func(s *api.Source) { s.Laws[0].Law.Name = "9" }},
	{"law 0 start", "law wear", api.ErrArg, func(s *api.Source) { s.Laws[0].Law.Start = row("1 1") }},
	{"law 1 name", "law flat", api.ErrArg, func(s *api.Source) { s.Laws[1].Law.Name = "" }},
	{"law 1 name", "law flat", api.ErrDuplicate, func(s *api.Source) { s.Laws[1].Law.Name = s.Laws[0].Law.Name }},
	{"law 1 exit", "law flat", api.ErrArg, func(s *api.Source) { s.Laws[1].Law.Exit = nil }},
}

var modelFaults = []fault{
	{"model 0 name", "model disk-1", api.ErrArg, func(s *api.Source) { s.Models[0].Name = "a b" }},
	{"model 0 law", "model disk-1", api.ErrName, func(s *api.Source) { s.Models[0].Law = "none" }},
	{"model 0 extents", "model disk-1", api.ErrRange, func(s *api.Source) { s.Models[0].Extents = 17 }},
	{"model 1 name", "model disk.2", api.ErrArg, func(s *api.Source) { s.Models[1].Name = strings.Repeat("n", 17) }},
	{"model 2 name", "model disk.3", api.ErrDuplicate, func(s *api.Source) { s.Models[2].Name = s.Models[0].Name }},
	{"model 2 law", "model disk.3", api.ErrName, func(s *api.Source) { s.Models[2].Law = "" }},
	{"model 2 port", "model disk.3", api.ErrRange, func(s *api.Source) { s.Models[2].Port = 0 }},
}

var nodeFaults = []fault{
	{"node 0 name", "site s", api.ErrArg, func(s *api.Source) { s.Nodes[0].Name = "" }},
	{"node 0 level", "site s", api.ErrArg, func(s *api.Source) { s.Nodes[0].Level = 2 }},
	{"node 0 uplink", "site s", api.ErrRange, func(s *api.Source) { s.Nodes[0].Uplink = 65 }},
	{"node 0 shock", "site s", api.ErrArg, func(s *api.Source) { s.Nodes[0].Shock = ratio(1<<32, 1) }},
	{"node 2 name", "rack s.r.k", api.ErrDuplicate, func(s *api.Source) { s.Nodes[2].Name = s.Nodes[0].Name }},
	{"node 2 level", "rack s.r.k", api.ErrArg, func(s *api.Source) { s.Nodes[2].Level = 4 }},
	{"node 2 uplink", "rack s.r.k", api.ErrRange, func(s *api.Source) { s.Nodes[2].Uplink = 0 }},
	{"node 2 model", "rack s.r.k", api.ErrArg, func(s *api.Source) { s.Nodes[2].Model = "disk-1" }},
	{"node 4 name", "drive d-1", api.ErrArg, func(s *api.Source) { s.Nodes[4].Name = "-" }},
	{"node 4 model", "drive d-1", api.ErrName, func(s *api.Source) { s.Nodes[4].Model = "flat" }},
	{"node 4 uplink", "drive d-1", api.ErrArg, func(s *api.Source) { s.Nodes[4].Uplink = 1 }},
	{"node 5 name", "drive d-2", api.ErrDuplicate, func(s *api.Source) { s.Nodes[5].Name = s.Nodes[2].Name }},
	{"node 5 level", "drive d-2", api.ErrArg, func(s *api.Source) { s.Nodes[5].Level = 6 }},
	{"node 5 model", "drive d-2", api.ErrName, func(s *api.Source) { s.Nodes[5].Model = "" }},
	{"node 5 shock", "drive d-2", api.ErrArg, func(s *api.Source) { s.Nodes[5].Shock = api.Frac{} }},
	{"node 6 level", "machine m-2", api.ErrArg, func(s *api.Source) { s.Nodes[6].Level = 0 }},
	{"node 15 name", "drive d-4", api.ErrDuplicate, func(s *api.Source) { s.Nodes[15].Name = s.Nodes[5].Name }},
}

var policyFaults = []fault{
	{"policy 0 name", "policy gold", api.ErrArg, func(s *api.Source) { s.Policies[0].Name = "1" }},
	{"policy 0 k", "policy gold", api.ErrRange, func(s *api.Source) { s.Policies[0].K = 0 }},
	{"policy 0 models", "policy gold", api.ErrArg, func(s *api.Source) { s.Policies[0].Models = nil }},
	{"policy 0 models", "policy gold", api.ErrName, func(s *api.Source) { s.Policies[0].Models = []string{"disk-1", "disk-1", "none"} }},
	{"policy 0 models", "policy gold", api.ErrDuplicate, func(s *api.Source) { s.Policies[0].Models = []string{"disk-1", "disk.2", "disk-1"} }},
	{"policy 0 repair", "policy gold", api.ErrRange, func(s *api.Source) { s.Policies[0].Repair = nil }},
	{"policy 1 name", "policy tin", api.ErrDuplicate, func(s *api.Source) { s.Policies[1].Name = s.Policies[0].Name }},
	{"policy 1 quorum", "policy tin", api.ErrRange, func(s *api.Source) { s.Policies[1].Quorum = 2 }},
	{"policy 1 models", "policy tin", api.ErrName, func(s *api.Source) { s.Policies[1].Models = []string{"tin"} }},
	{"policy 1 horizon", "policy tin", api.ErrRange, func(s *api.Source) { s.Policies[1].Horizon = ratio(-1, 1) }},
}

var volumeFaults = []fault{
	{"volume 0 name", "volume v", api.ErrArg, func(s *api.Source) { s.Volumes[0].Name = "\xff" }},
	{"volume 0 policy", "volume v", api.ErrName, func(s *api.Source) { s.Volumes[0].Policy = "lead" }},
	{"volume 2 name", "volume x", api.ErrDuplicate, func(s *api.Source) { s.Volumes[2].Name = s.Volumes[0].Name }},
	{"volume 2 policy", "volume x", api.ErrName, func(s *api.Source) { s.Volumes[2].Policy = "v" }},
}

// allFaults returns the faults in the order in which Compile has to find them.
func allFaults() []fault {
	list := []fault{
		{"extent", "", api.ErrRange, func(s *api.Source) { s.Extent = 0 }},
		{"extent", "", api.ErrRange, func(s *api.Source) { s.Extent = 5 }},
		{"volumes", "", api.ErrSize, func(s *api.Source) { s.Volumes = append(s.Volumes, make([]api.SourceVolume, 10)...) }},
		{"nodes", "", api.ErrSize, func(s *api.Source) {
			for range 40 {
				s.Nodes = append(s.Nodes, api.SourceNode{Level: 5})
			}
		}},
	}
	for _, more := range [][]fault{lawFaults, modelFaults, nodeFaults, policyFaults, volumeFaults} {
		list = append(list, more...)
	}
	return list
}

// placeOf returns the position of the name of a declaration of whole.
func placeOf(t *testing.T, declaration string) api.Pos {
	t.Helper()
	if declaration == "" {
		return api.Pos{}
	}
	_, name, _ := strings.Cut(declaration, " ")
	for i, line := range strings.Split(whole, "\n") {
		if at := strings.Index(line+" ", declaration+" "); at >= 0 {
			return api.Pos{Line: i + 1, Col: at + len(declaration) - len(name) + 1}
		}
	}
	t.Fatalf("%q is not declared", declaration)
	return api.Pos{}
}

// P10.4: every error by itself.
func TestErrors(t *testing.T) {
	for _, f := range allFaults() {
		s := sample(t)
		f.change(&s)
		checkError(t, f.part, s, f.err, placeOf(t, f.at))
		checkCompile(t, f.part, s)
	}
}

// P10.4: the earlier one of every two errors comes first, whichever was put in first.
func TestErrorsInOrder(t *testing.T) {
	list, count := allFaults(), 0
	for i, early := range list {
		for _, late := range list[i+1:] {
			if early.part == late.part {
				continue
			}
			// A name that is a copy of an earlier one is put in first, so that it stays a copy only if that one stays as it is.
			s := sample(t)
			late.change(&s)
			early.change(&s)
			checkError(t, early.part+" and "+late.part, s, early.err, placeOf(t, early.at))
			count++
		}
	}
	if count < 800 {
		t.Errorf("%d pairs", count)
	}
}

// P10.4: the errors of one declaration in their order, each together with all that come behind it.
func TestErrorsOfOne(t *testing.T) {
	list := allFaults()
	for from := range list {
		s := sample(t)
		for i := len(list) - 1; i >= from; i-- {
			list[i].change(&s)
		}
		checkError(t, "all from "+list[from].part, s, list[from].err, placeOf(t, list[from].at))
	}
}

// P10.4: the ranges of a policy come in two groups, with the models between them.
func TestPolicyErrors(t *testing.T) {
	first := map[string]func(d *api.SourcePolicy){
		"K": func(d *api.SourcePolicy) { d.K = 7 }, "M": func(d *api.SourcePolicy) { d.M = 5 }, "code": func(d *api.SourcePolicy) { d.K, d.M, d.Quorum = 5, 4, 5 },
		"M below 0": func(d *api.SourcePolicy) { d.M = -1 }, "large": func(d *api.SourcePolicy) { d.K, d.M, d.Quorum = math.MaxInt, math.MaxInt, math.MaxInt },
		"quorum": func(d *api.SourcePolicy) { d.Quorum = 1 }, "quorum above": func(d *api.SourcePolicy) { d.Quorum = 5 },
		"spread of the fleet": func(d *api.SourcePolicy) { d.Spread[0] = 1 }, "spread": func(d *api.SourcePolicy) { d.Spread[4] = 9 }, "spread below 0": func(d *api.SourcePolicy) { d.Spread[2] = -1 },
	}
	last := map[string]func(d *api.SourcePolicy){
		"no repair": func(d *api.SourcePolicy) { d.Repair = nil }, "repair": func(d *api.SourcePolicy) { d.Repair = row("1") }, "much repair": func(d *api.SourcePolicy) { d.Repair = row("1 1 1") },
		"repair 0": func(d *api.SourcePolicy) { d.Repair = row("1 0") }, "repair, no fraction": func(d *api.SourcePolicy) { d.Repair = make([]api.Frac, 2) },
		"target": func(d *api.SourcePolicy) { d.Target = ratio(3, 2) }, "target, no fraction": func(d *api.SourcePolicy) { d.Target = api.Frac{} },
		"horizon": func(d *api.SourcePolicy) { d.Horizon = ratio(1<<32, 1) }, "horizon, no fraction": func(d *api.SourcePolicy) { d.Horizon = api.Frac{} },
	}
	models := map[api.Errno][]string{api.ErrArg: nil, api.ErrName: {"disk-1", "disk-1", "none"}, api.ErrDuplicate: {"disk-1", "disk-1"}}
	at := placeOf(t, "policy gold")
	for name, a := range first {
		for err, list := range models {
			for other, b := range last {
				s := sample(t)
				a(&s.Policies[0])
				checkError(t, name, s, api.ErrRange, at)
				s.Policies[0].Models = list
				checkError(t, name, s, api.ErrRange, at)
				s = sample(t)
				b(&s.Policies[0])
				checkError(t, other, s, api.ErrRange, at)
				s.Policies[0].Models = list
				checkError(t, other, s, err, at)
			}
		}
	}
}
