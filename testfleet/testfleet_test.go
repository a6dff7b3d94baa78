package testfleet_test

import (
	"fmt"
	"math/rand"
	"slices"
	"testing"

	"drydock/api"
	"drydock/fleet"
	"drydock/testfleet"
)

// Random fleets keep to their limits and reach them, and their drives and domains stand in any order.
func TestRandom(t *testing.T) {
	r := rand.New(rand.NewSource(1))
	most := testfleet.Limits{Domains: 9, Drives: 6, Volumes: 3, Fragments: 5}
	var got testfleet.Limits
	unordered, models := 0, map[string]bool{}
	for range 2000 {
		f := testfleet.Random(r.Intn, most)
		got.Domains, got.Drives, got.Volumes = max(got.Domains, len(f.Domains)), max(got.Drives, len(f.Drives)), max(got.Volumes, len(f.Volumes))
		for _, p := range f.Policies {
			got.Fragments = max(got.Fragments, p.K+p.M)
			key := make([]byte, len(p.Models))
			for i, m := range p.Models {
				key[i] = '0' + byte(m)
			}
			models[string(key)] = true
		}
		if !slices.IsSortedFunc(f.Domains[1:], func(a, b api.Domain) int { return a.Parent - b.Parent }) && !slices.IsSortedFunc(f.Drives, func(a, b api.Drive) int { return a.Machine - b.Machine }) {
			unordered++
		}
	}
	if got != most || unordered < 500 || len(models) != 15 {
		t.Errorf("the limits %v, %d fleets in no order, the lists of models %v", got, unordered, models)
	}
}

// Fleets share no memory with what they were built of.
func TestBuild(t *testing.T) {
	policies := []api.Policy{testfleet.Policy(1, 1, [4]int{1, 2, 3, 4}, 1, 0)}
	build := func() api.Fleet {
		return testfleet.Build([]int{0, 1, 2, 3}, []int{5, 6}, []api.Drive{{Model: 1, Machine: 4}}, policies, 0, 0)
	}
	f, g := build(), build()
	f.Policies[0].Models[0], f.Policies[0].Repair[0] = 7, api.Frac{}
	if policies[0].Models[0] != 1 || g.Policies[0].Models[0] != 1 || len(g.Policies[0].Repair[0].Den) == 0 || g.Policies[0].Spread != [api.Levels]int{0, 1, 2, 3, 4} {
		t.Errorf("%v and %v", policies, g)
	}
	if len(g.Domains) != 5 || g.Domains[4].Level != 4 || g.Models[1].Extents != 6 || g.Drives[0].Machine != 4 || len(g.Volumes) != 2 {
		t.Errorf("%v", g)
	}
}

// A faulty fleet shares no list with the fleet that it was made of, and Invalid knows by itself whether it is valid.
func TestInvalid(t *testing.T) {
	r := rand.New(rand.NewSource(2))
	tried := 0
	for range 200 {
		f := testfleet.Random(r.Intn, testfleet.Limits{Domains: 12, Drives: 6, Volumes: 3, Fragments: 8})
		if len(f.Drives) == 0 || len(f.Volumes) == 0 {
			continue
		}
		tried++
		kept := fmt.Sprint(f)
		if got := len(testfleet.Invalid(f)); got != 50 {
			t.Errorf("%d fleets that are not valid", got)
		}
		if got := fmt.Sprint(f); got != kept {
			t.Errorf("%s became %s", kept, got)
		}
	}
	if tried < 50 {
		t.Errorf("%d fleets", tried)
	}
}

// A disguised fleet is valid, it has the same tree, extents and bounds, and its fleet is not changed.
func TestDisguise(t *testing.T) {
	r := rand.New(rand.NewSource(3))
	for range 200 {
		f := testfleet.Random(r.Intn, testfleet.Limits{Domains: 40, Drives: 24, Volumes: 12, Fragments: 8})
		kept := fmt.Sprint(f)
		other := testfleet.Disguise(f)
		if fmt.Sprint(f) != kept || fleet.Validate(other) != api.OK {
			t.Errorf("%v became %v", f, other)
		}
		for i, d := range f.Domains {
			if other.Domains[i].Parent != d.Parent || i > 0 && other.Domains[i].Name == d.Name {
				t.Errorf("%v became %v", d, other.Domains[i])
			}
		}
		for i, p := range f.Policies {
			q := other.Policies[i]
			slices.Reverse(q.Models)
			if p.K != q.K || p.M != q.M || p.Spread != q.Spread || !slices.Equal(p.Models, q.Models) || p.Name == q.Name {
				t.Errorf("%v became %v", p, q)
			}
		}
	}
}
