package topology_test

import (
	"math"
	"slices"
	"testing"

	"drydock/api"
	"drydock/fleet"
	"drydock/topology"
)

// checkRefused checks that every function returns what it should for a fleet that is not valid.
func checkRefused(t *testing.T, name string, f api.Fleet) {
	t.Helper()
	for _, n := range []int{math.MinInt, -1, 0, 1, 2, 3, 4, 5, 6, 11, math.MaxInt} {
		for level := -1; level <= 5; level++ {
			if got := topology.At(f, n, level); got != -1 {
				t.Errorf("%s: drive %d is in domain %d", name, n, got)
			}
		}
		checkNumbers(t, name+": Drives", topology.Drives(f, n), nil)
		checkNumbers(t, name+": Children", topology.Children(f, n), nil)
	}
	layouts := []api.Layout{sampleLayout(), nil, {nil, nil, nil}, {{99}, {-2}, {3, 3, 3, 3}}, slices.Repeat(api.Layout{{0, -1, 7}}, 13)}
	for _, l := range layouts {
		checkNumbers(t, name+": Loads", topology.Loads(f, l), nil)
		if topology.Shaped(f, l) {
			t.Errorf("%s: %v is shaped", name, l)
		}
		for _, room := range [][]int{nil, {1, 1, 1, 1, 1, 1, 1}, make([]int, 7), {1, 2}} {
			checkNumbers(t, name+": Room", topology.Room(f, room), nil)
			if got := topology.Violations(f, l, room); len(got) != 0 {
				t.Errorf("%s: the violations %v", name, got)
			}
			if topology.Holds(f, l, room) {
				t.Errorf("%s: %v holds", name, l)
			}
		}
	}
}

// Of a fleet that is not valid At returns -1, Shaped and Holds false, and the other functions nothing, also where the fault has nothing to do with the question.
func TestRefusedFleets(t *testing.T) {
	for name, change := range map[string]func(f *api.Fleet){
		"nothing":              func(f *api.Fleet) { *f = api.Fleet{} },
		"no domains":           func(f *api.Fleet) { f.Domains = nil },
		"extent":               func(f *api.Fleet) { f.Extent = 0 },
		"law":                  func(f *api.Fleet) { f.Laws[0].Exit[0] = ratio(0, 1) },
		"no laws":              func(f *api.Fleet) { f.Laws = nil },
		"name of a law":        func(f *api.Fleet) { f.Laws[0].Name = "" },
		"extents":              func(f *api.Fleet) { f.Models[2].Extents = 17 },
		"port":                 func(f *api.Fleet) { f.Models[0].Port = 0 },
		"law of a model":       func(f *api.Fleet) { f.Models[0].Law = 1 },
		"no models":            func(f *api.Fleet) { f.Models = nil },
		"a model less":         func(f *api.Fleet) { f.Models = f.Models[:2] },
		"parent of the fleet":  func(f *api.Fleet) { f.Domains[0].Parent = 0 },
		"level of the fleet":   func(f *api.Fleet) { f.Domains[0].Level = 1 },
		"parent: itself":       func(f *api.Fleet) { f.Domains[3].Parent = 3 },
		"parent: its child":    func(f *api.Fleet) { f.Domains[3].Parent = 6 },
		"parent: not there":    func(f *api.Fleet) { f.Domains[3].Parent = math.MaxInt },
		"parent: below 0":      func(f *api.Fleet) { f.Domains[1].Parent = math.MinInt },
		"parent two levels up": func(f *api.Fleet) { f.Domains[6].Parent = 1 },
		"level":                func(f *api.Fleet) { f.Domains[9].Level = 3 },
		"level: large":         func(f *api.Fleet) { f.Domains[14].Level = math.MaxInt },
		"uplink":               func(f *api.Fleet) { f.Domains[14].Uplink = 65 },
		"shock":                func(f *api.Fleet) { f.Domains[14].Shock = api.Frac{} },
		"two names":            func(f *api.Fleet) { f.Drives[0].Name = f.Domains[14].Name },
		"domains cut off":      func(f *api.Fleet) { f.Domains = f.Domains[:11] },
		"machine: a rack":      func(f *api.Fleet) { f.Drives[6].Machine = 8 },
		"machine: below 0":     func(f *api.Fleet) { f.Drives[0].Machine = -1 },
		"machine: not there":   func(f *api.Fleet) { f.Drives[0].Machine = 15 },
		"model: below 0":       func(f *api.Fleet) { f.Drives[0].Model = -1 },
		"model: not there":     func(f *api.Fleet) { f.Drives[6].Model = 3 },
		"code":                 func(f *api.Fleet) { f.Policies[0].K = math.MaxInt },
		"quorum":               func(f *api.Fleet) { f.Policies[0].Quorum = 1 },
		"spread of the fleet":  func(f *api.Fleet) { f.Policies[0].Spread[0] = 3 },
		"spread":               func(f *api.Fleet) { f.Policies[2].Spread[4] = 9 },
		"models of a policy":   func(f *api.Fleet) { f.Policies[0].Models[1] = 3 },
		"models twice":         func(f *api.Fleet) { f.Policies[0].Models[1] = 1 },
		"repair":               func(f *api.Fleet) { f.Policies[0].Repair = nil },
		"target":               func(f *api.Fleet) { f.Policies[0].Target = ratio(2, 1) },
		"horizon":              func(f *api.Fleet) { f.Policies[1].Horizon = ratio(-1, 1) },
		"no policies":          func(f *api.Fleet) { f.Policies = nil },
		"policy of a volume":   func(f *api.Fleet) { f.Volumes[2].Policy = 3 },
		"name of a volume":     func(f *api.Fleet) { f.Volumes[2].Name = "a b" },
		"too many volumes":     func(f *api.Fleet) { f.Volumes = make([]api.Volume, 13) },
		"too many drives":      func(f *api.Fleet) { f.Drives = slices.Repeat(f.Drives, 4) },
	} {
		f := sample()
		change(&f)
		if fleet.Validate(f) != api.ErrArg {
			t.Errorf("%s: the fleet is valid", name)
		}
		checkRefused(t, name, f)
	}
}
