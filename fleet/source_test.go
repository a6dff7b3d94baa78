package fleet_test

import (
	"fmt"
	"math/rand"
	"reflect"
	"strings"
	"testing"

	"drydock/api"
	"drydock/fleet"
)

// unplaced returns s with all positions zero.
func unplaced(s api.Source) api.Source {
	s = clone(s)
	for i := range s.Laws {
		s.Laws[i].Pos = api.Pos{}
	}
	for i := range s.Models {
		s.Models[i].Pos = api.Pos{}
	}
	for i := range s.Nodes {
		s.Nodes[i].Pos = api.Pos{}
	}
	for i := range s.Policies {
		s.Policies[i].Pos = api.Pos{}
	}
	for i := range s.Volumes {
		s.Volumes[i].Pos = api.Pos{}
	}
	return s
}

// P10.5: the source of the sample is what was parsed, without positions and with fractions in lowest terms.
func TestSourceWritten(t *testing.T) {
	got, err := checkSource(t, "the sample", sampleFleet())
	want := unplaced(sample(t))
	if a, b := fmt.Sprintf("%+v", got), fmt.Sprintf("%+v", want); a != b || err != api.OK {
		t.Errorf("error %d, %s", err, unlike(a, b))
	}
	least, err := fleet.Source(api.Fleet{Extent: 4, Domains: []api.Domain{{Parent: -1, Shock: ratio(0, 1)}}})
	if fmt.Sprintf("%+v", least) != fmt.Sprintf("%+v", api.Source{Extent: 4}) || err != api.OK {
		t.Errorf("the least fleet: error %d, %+v", err, least)
	}
}

// outlineOf returns the levels and names of nodes.
func outlineOf(list []api.SourceNode) string {
	var out []string
	for _, n := range list {
		out = append(out, fmt.Sprint(n.Level, n.Name))
	}
	return strings.Join(out, " ")
}

// P10.5: domains and drives in another order than depth first, written out.
func TestSourceNodes(t *testing.T) {
	f := sampleFleet()
	f.Drives, f.Policies, f.Volumes = nil, nil, nil
	f.Domains = f.Domains[:1]
	for i, d := range []api.Domain{
		{Name: "b", Level: 1, Parent: 0}, {Name: "a", Level: 1, Parent: 0}, // 1, 2
		{Name: "a-r", Level: 2, Parent: 2}, {Name: "b-r", Level: 2, Parent: 1}, {Name: "a-q", Level: 2, Parent: 2}, // 3, 4, 5
		{Name: "b-r-k", Level: 3, Parent: 4}, {Name: "a-r-k", Level: 3, Parent: 3}, // 6, 7
		{Name: "a-r-k-n", Level: 4, Parent: 7}, {Name: "b-r-k-m", Level: 4, Parent: 6}, {Name: "a-r-k-m", Level: 4, Parent: 7}, // 8, 9, 10
	} {
		d.Uplink, d.Shock = i+1, loose(int64(i), 4, 6)
		f.Domains = append(f.Domains, d)
	}
	for i, machine := range []int{10, 8, 9, 10, 8} {
		f.Drives = append(f.Drives, api.Drive{Name: fmt.Sprint("d", i), Model: i % 3, Machine: machine})
	}
	s, err := checkSource(t, "another order", f)
	want := "1b 2b-r 3b-r-k 4b-r-k-m 5d2 1a 2a-r 3a-r-k 4a-r-k-n 5d1 5d4 4a-r-k-m 5d0 5d3 2a-q"
	if got := outlineOf(s.Nodes); got != want || err != api.OK {
		t.Errorf("error %d, %s, want %s", err, got, want)
	}
	if n := s.Nodes[12]; len(s.Nodes) != 15 || fmt.Sprint(n) != fmt.Sprint(api.SourceNode{Level: 5, Name: "d0", Shock: ratio(0, 1), Model: "disk-1"}) {
		t.Errorf("drive 0: %+v", n)
	}
	if n := s.Nodes[11]; fmt.Sprint(n) != fmt.Sprint(api.SourceNode{Level: 4, Name: "a-r-k-m", Uplink: 10, Shock: ratio(9, 4)}) {
		t.Errorf("domain 10: %+v", n)
	}
}

// P10.5: a fleet that is not valid has no source.
func TestSourceRefused(t *testing.T) {
	for _, change := range []func(f *api.Fleet){
		func(f *api.Fleet) { f.Extent = 0 }, func(f *api.Fleet) { f.Laws[0].Start = nil }, func(f *api.Fleet) { f.Models[0].Law = 2 }, func(f *api.Fleet) { f.Domains = nil },
		func(f *api.Fleet) { f.Domains[0].Name = "fleet" }, func(f *api.Fleet) { f.Domains[3].Parent = 12 }, func(f *api.Fleet) { f.Drives[0].Machine = 3 }, func(f *api.Fleet) { f.Drives[0].Name = "s" },
		func(f *api.Fleet) { f.Policies[0].Models = []int{3} }, func(f *api.Fleet) { f.Policies[1].Target = api.Frac{} }, func(f *api.Fleet) { f.Volumes[0].Policy = -1 },
	} {
		f := sampleFleet()
		change(&f)
		if s, err := fleet.Source(f); err != api.ErrArg || !reflect.DeepEqual(s, api.Source{}) {
			t.Errorf("error %d, %+v", err, s)
		}
	}
	if s, err := fleet.Source(api.Fleet{}); err != api.ErrArg || !reflect.DeepEqual(s, api.Source{}) {
		t.Errorf("nothing: error %d, %+v", err, s)
	}
}

// P10.5: every field of the sample with every other value, and random fleets.
func TestSourceVariants(t *testing.T) {
	f, found := sampleFleet(), map[api.Errno]int{}
	eachVariant(&f, func(name string) {
		_, err := checkSource(t, name, f)
		found[err]++
	})
	r := rand.New(rand.NewSource(6))
	for range 500 {
		_, err := checkSource(t, "random", randomFleet(r))
		found[err]++
	}
	if found[api.OK] < 900 || found[api.ErrArg] < 1000 {
		t.Errorf("errors that were found: %v", found)
	}
}
