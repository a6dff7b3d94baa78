package fleet_test

import (
	"fmt"
	"testing"

	"drydock/api"
)

// grown returns the sample with more declarations of a kind, up to a number of them.
func grown(t *testing.T, kind string, size int) api.Source {
	t.Helper()
	s := sample(t)
	for i := range 100 {
		name := fmt.Sprint("n", i)
		switch kind {
		case "laws":
			if l := law("1", "1", "0"); len(s.Laws) < size {
				l.Name = name
				s.Laws = append(s.Laws, api.SourceLaw{Law: l})
			}
		case "models":
			if len(s.Models) < size {
				s.Models = append(s.Models, api.SourceModel{Name: name, Extents: 1, Port: 1, Law: "wear"})
			}
		case "domains": // 12 of the sample and the fleet
			if len(s.Nodes)-4+1 < size {
				s.Nodes = append(s.Nodes, api.SourceNode{Level: 1 + min(i, 3), Name: name, Uplink: 1, Shock: ratio(0, 1)})
			}
		case "drives":
			if len(s.Nodes)-12 < size {
				s.Nodes = append(s.Nodes, api.SourceNode{Level: 5, Name: name, Model: "disk-1", Shock: ratio(0, 1)})
			}
		case "policies":
			if p := clone(s.Policies[1]); len(s.Policies) < size {
				p.Name = name
				s.Policies = append(s.Policies, p)
			}
		case "volumes":
			if len(s.Volumes) < size {
				s.Volumes = append(s.Volumes, api.SourceVolume{Name: name, Policy: "tin"})
			}
		}
	}
	return s
}

var limits = map[string]int{"laws": 4, "models": 4, "domains": 40, "drives": 24, "policies": 4, "volumes": 12}

// P10.4: as many declarations of each kind as are allowed, and more.
func TestSizes(t *testing.T) {
	for kind, most := range limits {
		if got := checkCompile(t, kind, grown(t, kind, most)); got.err != api.OK {
			t.Errorf("%d %s: error %d", most, kind, got.err)
		}
		for more := 1; more <= 3; more++ {
			checkError(t, kind, grown(t, kind, most+more), api.ErrSize, api.Pos{})
		}
	}
	f := compile(grown(t, "domains", 40)).fleet
	if len(f.Domains) != 40 || len(compile(grown(t, "drives", 24)).fleet.Drives) != 24 {
		t.Errorf("%d domains", len(f.Domains))
	}
}

// P10.4: ErrRange of the extent comes before ErrSize, and that before all others.
func TestSizesInOrder(t *testing.T) {
	for kind, most := range limits {
		s := grown(t, kind, most+2)
		s.Laws[0].Law.Name = ""
		s.Nodes[0].Level = -1
		checkError(t, kind, s, api.ErrSize, api.Pos{})
		s.Extent = 5
		checkError(t, kind, s, api.ErrRange, api.Pos{})
	}
}

// P10.4: domains and drives are counted apart, and nodes of other levels not at all.
func TestSizesOfNodes(t *testing.T) {
	domains, drives := grown(t, "domains", 40), grown(t, "drives", 24)
	domains.Nodes = append(domains.Nodes, drives.Nodes[16:]...)
	for i := range domains.Nodes[16:] {
		domains.Nodes[16+i].Name = fmt.Sprint("k", i)
	}
	if got := checkCompile(t, "39 domains and 24 drives", domains); got.err != api.OK || len(got.fleet.Domains) != 40 || len(got.fleet.Drives) != 24 {
		t.Errorf("39 domains and 24 drives: %v", got)
	}
	for _, level := range []int{0, 6, -1, 1 << 40} {
		s := sample(t)
		at := api.Pos{Line: 99, Col: 1}
		for range 100 {
			s.Nodes = append(s.Nodes, api.SourceNode{Level: level, Name: "n", Pos: at})
			at.Col++
		}
		checkError(t, fmt.Sprint("100 nodes of level ", level), s, api.ErrArg, api.Pos{Line: 99, Col: 1})
	}
	s := sample(t)
	s.Nodes[0].Level = 6
	checkError(t, "the first node of level 6", s, api.ErrArg, placeOf(t, "site s"))
}
