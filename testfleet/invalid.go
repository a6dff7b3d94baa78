package testfleet

import (
	"math"
	"slices"

	"drydock/api"
	"drydock/fleet"
)

// Invalid returns fleets that are not valid, each of them like f but for the fault that its name tells. f has to have a law, a drive, a policy of a model, and a volume.
func Invalid(f api.Fleet) map[string]api.Fleet {
	out := map[string]api.Fleet{}
	for _, faults := range []map[string]func(f *api.Fleet){faultsOfModels(), faultsOfDomains(), faultsOfDrives(), faultsOfPolicies()} {
		for name, change := range faults {
			faulty := Clone(f)
			change(&faulty)
			if fleet.Validate(faulty) != api.ErrArg {
				panic("a fleet with a fault is valid: " + name)
			}
			out[name] = faulty
		}
	}
	return out
}

func faultsOfModels() map[string]func(f *api.Fleet) {
	return map[string]func(f *api.Fleet){
		"nothing":          func(f *api.Fleet) { *f = api.Fleet{} },
		"extent":           func(f *api.Fleet) { f.Extent = 5 },
		"law":              func(f *api.Fleet) { f.Laws[0].Exit[0] = Ratio(-1, 2) },
		"no laws":          func(f *api.Fleet) { f.Laws = nil },
		"name of a law":    func(f *api.Fleet) { f.Laws[0].Name = "" },
		"no extents":       func(f *api.Fleet) { f.Models[0].Extents = 0 },
		"too many extents": func(f *api.Fleet) { f.Models[0].Extents = 17 },
		"port":             func(f *api.Fleet) { f.Models[0].Port = 65 },
		"law of a model":   func(f *api.Fleet) { f.Models[0].Law = len(f.Laws) },
		"no models":        func(f *api.Fleet) { f.Models = nil },
	}
}

func faultsOfDomains() map[string]func(f *api.Fleet) {
	machine := func(f *api.Fleet) *api.Domain { return &f.Domains[f.Drives[0].Machine] }
	rack := func(f *api.Fleet) *api.Domain { return &f.Domains[machine(f).Parent] }
	return map[string]func(f *api.Fleet){
		"no domains":           func(f *api.Fleet) { f.Domains = nil },
		"name of the fleet":    func(f *api.Fleet) { f.Domains[0].Name = "fleet" },
		"parent of the fleet":  func(f *api.Fleet) { f.Domains[0].Parent = 0 },
		"level of the fleet":   func(f *api.Fleet) { f.Domains[0].Level = 1 },
		"uplink of the fleet":  func(f *api.Fleet) { f.Domains[0].Uplink = 1 },
		"parent: itself":       func(f *api.Fleet) { rack(f).Parent = machine(f).Parent },
		"parent: its child":    func(f *api.Fleet) { rack(f).Parent = f.Drives[0].Machine },
		"parent: not there":    func(f *api.Fleet) { rack(f).Parent = math.MaxInt },
		"parent: below 0":      func(f *api.Fleet) { f.Domains[1].Parent = math.MinInt },
		"parent two levels up": func(f *api.Fleet) { machine(f).Parent = rack(f).Parent },
		"level":                func(f *api.Fleet) { machine(f).Level = 3 },
		"level: large":         func(f *api.Fleet) { machine(f).Level = math.MaxInt },
		"uplink":               func(f *api.Fleet) { machine(f).Uplink = 0 },
		"shock":                func(f *api.Fleet) { machine(f).Shock = api.Frac{} },
		"domains cut off":      func(f *api.Fleet) { f.Domains = f.Domains[:f.Drives[0].Machine] },
	}
}

func faultsOfDrives() map[string]func(f *api.Fleet) {
	return map[string]func(f *api.Fleet){
		"name of a drive":    func(f *api.Fleet) { f.Drives[0].Name = f.Domains[1].Name },
		"machine: a rack":    func(f *api.Fleet) { f.Drives[0].Machine = f.Domains[f.Drives[0].Machine].Parent },
		"machine: the fleet": func(f *api.Fleet) { f.Drives[0].Machine = 0 },
		"machine: below 0":   func(f *api.Fleet) { f.Drives[0].Machine = -1 },
		"machine: not there": func(f *api.Fleet) { f.Drives[0].Machine = len(f.Domains) },
		"model: below 0":     func(f *api.Fleet) { f.Drives[0].Model = -1 },
		"model: not there":   func(f *api.Fleet) { f.Drives[0].Model = len(f.Models) },
		"too many drives":    func(f *api.Fleet) { f.Drives = slices.Repeat(f.Drives, 25) },
	}
}

func faultsOfPolicies() map[string]func(f *api.Fleet) {
	return map[string]func(f *api.Fleet){
		"code":                func(f *api.Fleet) { f.Policies[0].K = math.MaxInt },
		"code of nothing":     func(f *api.Fleet) { f.Policies[0].K, f.Policies[0].Quorum = 0, 0 },
		"quorum":              func(f *api.Fleet) { f.Policies[0].Quorum = f.Policies[0].K - 1 },
		"spread of the fleet": func(f *api.Fleet) { f.Policies[0].Spread[0] = 3 },
		"spread":              func(f *api.Fleet) { f.Policies[0].Spread[4] = 9 },
		"spread below 0":      func(f *api.Fleet) { f.Policies[0].Spread[4] = -1 },
		"no models allowed":   func(f *api.Fleet) { f.Policies[0].Models = nil },
		"models of a policy":  func(f *api.Fleet) { f.Policies[0].Models[0] = len(f.Models) },
		"models twice": func(f *api.Fleet) {
			f.Policies[0].Models = append(f.Policies[0].Models, f.Policies[0].Models[0])
		},
		"repair":             func(f *api.Fleet) { f.Policies[0].Repair = nil },
		"target":             func(f *api.Fleet) { f.Policies[0].Target = Ratio(2, 1) },
		"horizon":            func(f *api.Fleet) { f.Policies[0].Horizon = Ratio(-1, 1) },
		"no policies":        func(f *api.Fleet) { f.Policies = nil },
		"policy of a volume": func(f *api.Fleet) { f.Volumes[0].Policy = len(f.Policies) },
		"policy: below 0":    func(f *api.Fleet) { f.Volumes[0].Policy = math.MinInt },
		"name of a volume":   func(f *api.Fleet) { f.Volumes[0].Name = "a b" },
		"too many volumes":   func(f *api.Fleet) { f.Volumes = slices.Repeat(f.Volumes, 13) },
	}
}

// TooLarge returns fleets that have one domain, drive or volume more than the greatest fleet.
func TooLarge() map[string]api.Fleet {
	domains, drives, volumes := Greatest(), Greatest(), Greatest()
	domains.Domains = append(domains.Domains, domains.Domains[1])
	domains.Domains[api.MaxDomains].Name = "more"
	drives.Drives = append(drives.Drives, api.Drive{Name: "more", Machine: drives.Drives[0].Machine})
	volumes.Volumes = append(volumes.Volumes, api.Volume{Name: "more"})
	return map[string]api.Fleet{"too many domains": domains, "too many drives": drives, "too many volumes": volumes}
}
