package testfleet_test

import (
	"fmt"
	"math/rand"
	"slices"
	"testing"

	"drydock/api"
	"drydock/fleet"
	"drydock/testfleet"
	"drydock/topology"
)

// Random fleets keep to their limits and reach them, and their drives and domains stand in any order.
func TestRandom(t *testing.T) {
	r := rand.New(rand.NewSource(1))
	most := testfleet.Limits{Domains: 9, Drives: 6, Volumes: 3, Fragments: 5}
	var got testfleet.Limits
	unordered, models := 0, map[string]bool{}
	for range 2000 {
		f := testfleet.Random(r.Intn, most)
		got.Domains, got.Drives, got.Volumes = max(got.Domains, len(f.Domains)), max(got.Drives, len(f.Drives)), max(got.Volumes, len(f.Volumes))
		for _, p := range f.Policies {
			got.Fragments = max(got.Fragments, p.K+p.M)
			key := make([]byte, len(p.Models))
			for i, m := range p.Models {
				key[i] = '0' + byte(m)
			}
			models[string(key)] = true
		}
		if !slices.IsSortedFunc(f.Domains[1:], func(a, b api.Domain) int { return a.Parent - b.Parent }) && !slices.IsSortedFunc(f.Drives, func(a, b api.Drive) int { return a.Machine - b.Machine }) {
			unordered++
		}
	}
	if got != most || unordered < 500 || len(models) != 15 {
		t.Errorf("the limits %v, %d fleets in no order, the lists of models %v", got, unordered, models)
	}
}

// Fleets share no memory with what they were built of.
func TestBuild(t *testing.T) {
	policies := []api.Policy{testfleet.Policy(1, 1, [4]int{1, 2, 3, 4}, 1, 0)}
	build := func() api.Fleet {
		return testfleet.Build([]int{0, 1, 2, 3}, []int{5, 6}, []api.Drive{{Model: 1, Machine: 4}}, policies, 0, 0)
	}
	f, g := build(), build()
	f.Policies[0].Models[0], f.Policies[0].Repair[0] = 7, api.Frac{}
	if policies[0].Models[0] != 1 || g.Policies[0].Models[0] != 1 || len(g.Policies[0].Repair[0].Den) == 0 || g.Policies[0].Spread != [api.Levels]int{0, 1, 2, 3, 4} {
		t.Errorf("%v and %v", policies, g)
	}
	if len(g.Domains) != 5 || g.Domains[4].Level != 4 || g.Models[1].Extents != 6 || g.Drives[0].Machine != 4 || len(g.Volumes) != 2 {
		t.Errorf("%v", g)
	}
}

// A faulty fleet shares no list with the fleet that it was made of, and Invalid knows by itself whether it is valid.
func TestInvalid(t *testing.T) {
	r := rand.New(rand.NewSource(2))
	tried := 0
	for range 200 {
		f := testfleet.Random(r.Intn, testfleet.Limits{Domains: 12, Drives: 6, Volumes: 3, Fragments: 8})
		if len(f.Drives) == 0 || len(f.Volumes) == 0 {
			continue
		}
		tried++
		kept := fmt.Sprint(f)
		if got := len(testfleet.Invalid(f)); got != 50 {
			t.Errorf("%d fleets that are not valid", got)
		}
		if got := fmt.Sprint(f); got != kept {
			t.Errorf("%s became %s", kept, got)
		}
	}
	if tried < 50 {
		t.Errorf("%d fleets", tried)
	}
}

// A disguised fleet is valid, it has the same tree, extents and bounds, and its fleet is not changed.
func TestDisguise(t *testing.T) {
	r := rand.New(rand.NewSource(3))
	for range 200 {
		f := testfleet.Random(r.Intn, testfleet.Limits{Domains: 40, Drives: 24, Volumes: 12, Fragments: 8})
		kept := fmt.Sprint(f)
		other := testfleet.Disguise(f)
		if fmt.Sprint(f) != kept || fleet.Validate(other) != api.OK {
			t.Errorf("%v became %v", f, other)
		}
		for i, d := range f.Domains {
			if other.Domains[i].Parent != d.Parent || i > 0 && other.Domains[i].Name == d.Name {
				t.Errorf("%v became %v", d, other.Domains[i])
			}
		}
		for i, p := range f.Policies {
			q := other.Policies[i]
			slices.Reverse(q.Models)
			if p.K != q.K || p.M != q.M || p.Spread != q.Spread || !slices.Equal(p.Models, q.Models) || p.Name == q.Name {
				t.Errorf("%v became %v", p, q)
			}
		}
	}
}

// Layouts visits each layout once, and it ends when no more are wanted.
func TestLayouts(t *testing.T) {
	f := testfleet.Build([]int{0, 1, 2, 3}, []int{1}, []api.Drive{{Machine: 4}, {Machine: 4}}, []api.Policy{testfleet.Policy(2, 1, [4]int{}, 0), testfleet.Policy(1, 0, [4]int{}, 0)}, 0, 1)
	seen := map[string]bool{}
	for l := range testfleet.Layouts(f) {
		seen[fmt.Sprint(l)] = topology.Shaped(f, l)
	}
	if len(seen) != 81 || !seen["[[-1 -1 -1] [-1]]"] || !seen["[[1 0 1] [-1]]"] || !seen["[[1 1 1] [1]]"] {
		t.Errorf("%d layouts: %v", len(seen), seen)
	}
	count := 0
	for range testfleet.Layouts(f) {
		if count++; count == 3 {
			break
		}
	}
	if count != 3 {
		t.Errorf("%d layouts", count)
	}
	for l := range testfleet.Layouts(testfleet.Build(nil, nil, nil, nil)) {
		if count++; len(l) > 0 {
			t.Errorf("%v of no volumes", l)
		}
	}
	if count != 4 {
		t.Errorf("%d layouts of no volumes", count-3)
	}
}

// Random layouts have the right shape; some leave a fragment without a drive, have two of a volume on one, or hold. Rooms are one for each drive, and now and then not.
func TestRandomLayouts(t *testing.T) {
	r := rand.New(rand.NewSource(4))
	kinds, other := map[int]int{}, 0
	for range 2000 {
		f := testfleet.Random(r.Intn, testfleet.Limits{Domains: 12, Drives: 6, Volumes: 3, Fragments: 4})
		l := testfleet.RandomLayout(r.Intn, f)
		for _, v := range topology.Violations(f, l, nil) {
			kinds[v.Kind]++
		}
		if topology.Holds(f, l, nil) && len(l) > 0 {
			kinds[0]++
		}
		if len(testfleet.RandomRoom(r.Intn, f)) != len(f.Drives) {
			other++
		}
	}
	if kinds[api.BadShape] > 0 || kinds[0] < 50 || kinds[api.BadHome] < 50 || kinds[api.BadTwice] < 50 || other < 50 {
		t.Errorf("layouts that hold and violations: %v, and %d times other rooms", kinds, other)
	}
}

// The hidden layout holds with just the room that it needs.
func TestHide(t *testing.T) {
	r := rand.New(rand.NewSource(5))
	hidden := 0
	for range 200 {
		f := testfleet.Random(r.Intn, testfleet.Limits{Domains: 40, Drives: 24, Volumes: 12, Fragments: 8})
		if l := testfleet.Hide(r.Intn, &f); l != nil {
			hidden++
			if !topology.Holds(f, l, topology.Loads(f, l)) || len(l) != len(f.Volumes) {
				t.Errorf("%v does not hold in %v", l, f)
			}
		}
	}
	if hidden < 50 {
		t.Errorf("%d layouts", hidden)
	}
}

// The greatest fleet is as large as it may be.
func TestGreatest(t *testing.T) {
	f := testfleet.Greatest()
	if len(f.Domains) != api.MaxDomains || len(f.Drives) != api.MaxDrives || len(f.Volumes) != api.MaxVolumes || testfleet.Fragments(f, 11) != api.MaxFragments {
		t.Errorf("%v", f)
	}
}

// A fleet that is too large has one thing too many, and is not valid; a fleet of nothing is, with nil and with empty lists.
func TestTooLargeAndNothing(t *testing.T) {
	for name, f := range testfleet.TooLarge() {
		if over := len(f.Domains) + len(f.Drives) + len(f.Volumes) - api.MaxDomains - api.MaxDrives - api.MaxVolumes; over != 1 || fleet.Validate(f) != api.ErrArg {
			t.Errorf("%s: %d", name, over)
		}
	}
	if none, empty := testfleet.Nothing(); fleet.Validate(none) != api.OK || fleet.Validate(empty) != api.OK || none.Drives != nil || empty.Drives == nil {
		t.Errorf("%v and %v", none, empty)
	}
}
