package feasible_test

import (
	"fmt"
	"math/rand"
	"slices"
	"testing"

	"drydock/api"
	"drydock/feasible"
	"drydock/maxflow"
	"drydock/testfleet"
	"drydock/topology"
)

// P14.4: there is a layout if and only if the placement network has a flow whose value is the sum of all n(v), and a layout is such a flow.
func TestLayoutsAreFlows(t *testing.T) {
	r := rand.New(rand.NewSource(6))
	counts := map[bool]int{}
	for range 3000 {
		f := smallFleet(r)
		room := testfleet.RandomRoom(r.Intn, f)
		n, _ := feasible.Network(f, room)
		_, value, _, err := maxflow.Solve(n)
		placed := exists(f, room)
		if err != api.OK || placed != (value == sumOfAll(f)) {
			t.Errorf("%v: that there is a layout, is %t, and the greatest value is %d of %d", f, placed, value, sumOfAll(f))
		}
		counts[placed]++
		if placed {
			l, _ := feasible.Place(f, room)
			checkFlow(t, f, l, room, true)
		}
	}
	if counts[true] < 500 || counts[false] < 500 {
		t.Errorf("with and without a layout: %v", counts)
	}
}

// checkFlow checks whether a layout is a flow of the placement network with the greatest value that there may be.
func checkFlow(t *testing.T, f api.Fleet, l api.Layout, room []int, want bool) {
	t.Helper()
	n, _ := feasible.Network(f, room)
	if value, ok := maxflow.Value(n, flowOf(f, l, room)); ok != want || want && value != sumOfAll(f) {
		t.Errorf("%v with the rooms %v: of the layout %v the value is %d, %t", f, room, l, value, ok)
	}
}

// P14.4: layouts of distinct drives that the models allow are flows if and only if they hold: the Caps say the same as the constraints.
func TestConstraintsAreCaps(t *testing.T) {
	r := rand.New(rand.NewSource(7))
	counts := map[bool]int{}
	for range 6000 {
		f := smallFleet(r)
		room := testfleet.RandomRoom(r.Intn, f)
		var l api.Layout
		for v := range f.Volumes {
			allowed := slices.DeleteFunc(r.Perm(len(f.Drives)), func(d int) bool { return !testfleet.Allows(f, v, d) })
			if len(allowed) >= testfleet.Fragments(f, v) {
				l = append(l, allowed[:testfleet.Fragments(f, v)])
			}
		}
		if len(l) == 0 || len(l) < len(f.Volumes) {
			continue
		}
		holds := topology.Holds(f, l, room)
		checkFlow(t, f, l, room, holds)
		counts[holds]++
	}
	if counts[true] < 200 || counts[false] < 200 {
		t.Errorf("layouts that hold and others: %v", counts)
	}
}

// P14.4: of a fleet with a layout, large or small, no cut is accepted.
func TestNoCutAgainstLayouts(t *testing.T) {
	r := rand.New(rand.NewSource(8))
	cuts := 0
	for range 300 {
		f := randomFleet(r, api.MaxDomains, api.MaxDrives, api.MaxVolumes, api.MaxFragments)
		l := testfleet.Hide(r.Intn, &f)
		if l == nil {
			continue
		}
		room := topology.Loads(f, l)
		less := slices.Clone(room)
		less[slices.Index(room, slices.Max(room))]--
		c, found := feasible.Why(f, less)
		if !found {
			t.Errorf("%v: no cut for the rooms %v", f, less)
			continue
		}
		// What proves something with less room is the next thing to a proof.
		for range 50 {
			checkCut(t, fmt.Sprint(f), f, room, c, false)
			checkCut(t, fmt.Sprint(f), f, nil, c, false)
			flip(r, f, c)
			cuts++
		}
	}
	if cuts < 1000 {
		t.Errorf("%d cuts", cuts)
	}
}

// P14.4: more room, a greater Spread, no Spread and one more model never take a layout away, and they add no proof that there is none.
func TestMoreIsAllowed(t *testing.T) {
	r := rand.New(rand.NewSource(9))
	for name, more := range map[string]func(f *api.Fleet, room []int){
		"room": func(f *api.Fleet, room []int) {
			if len(room) > 0 {
				room[r.Intn(len(room))] += 1 + r.Intn(2)
			}
		},
		"extents": func(f *api.Fleet, room []int) {
			f.Models[r.Intn(len(f.Models))].Extents += 1 + r.Intn(2)
		},
		"Spread": func(f *api.Fleet, room []int) {
			p, level := &f.Policies[r.Intn(len(f.Policies))], 1+r.Intn(4)
			if p.Spread[level] > 0 {
				p.Spread[level] = min(p.Spread[level]+1+r.Intn(2), api.MaxFragments)
			}
		},
		"no Spread": func(f *api.Fleet, room []int) {
			f.Policies[r.Intn(len(f.Policies))].Spread[1+r.Intn(4)] = 0
		},
		"models": func(f *api.Fleet, room []int) {
			p, model := &f.Policies[r.Intn(len(f.Policies))], r.Intn(len(f.Models))
			if !slices.Contains(p.Models, model) {
				p.Models = append(slices.Clone(p.Models), model)
			}
		},
	} {
		kept, gained, proofs := 0, 0, 0
		for range 3000 {
			f := smallFleet(r)
			room := make([]int, len(f.Drives))
			for i := range room {
				room[i] = r.Intn(5)
			}
			greater, greaterRoom := f, slices.Clone(room)
			greater.Models, greater.Policies = slices.Clone(f.Models), slices.Clone(f.Policies)
			more(&greater, greaterRoom)
			_, before := feasible.Place(f, room)
			_, after := feasible.Place(greater, greaterRoom)
			switch {
			case before == api.OK && after == api.OK:
				kept++
			case before == api.OK:
				t.Errorf("%s: %v with the rooms %v had a layout, and %v with %v has none", name, f, room, greater, greaterRoom)
			case after == api.OK:
				gained++
			default:
				c, _ := feasible.Why(greater, greaterRoom)
				checkCut(t, name, f, room, c, true)
				proofs++
			}
		}
		if kept < 300 || gained < 10 || proofs < 300 {
			t.Errorf("%s: %d layouts were there before, %d are new, and %d times there is still none", name, kept, gained, proofs)
		}
	}
}
