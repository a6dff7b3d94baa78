package fleet_test

import (
	"fmt"
	"math/big"
	"math/rand"
	"testing"

	"drydock/api"
	"drydock/fleet"
)

// P10.5: every field counts, written out.
func TestEqualFields(t *testing.T) {
	a := sampleFleet()
	if !checkEqual(t, "the sample", a, sampleFleet()) || !checkEqual(t, "nothing", api.Fleet{}, api.Fleet{}) || checkEqual(t, "nothing else", a, api.Fleet{}) {
		t.Error("the sample")
	}
	for name, change := range map[string]func(f *api.Fleet){
		"extent":         func(f *api.Fleet) { f.Extent = 3 },
		"laws":           func(f *api.Fleet) { f.Laws = f.Laws[:1] },
		"law name":       func(f *api.Fleet) { f.Laws[1].Name = "x" },
		"law start":      func(f *api.Fleet) { f.Laws[0].Start[1] = ratio(1, 7) },
		"law rates":      func(f *api.Fleet) { f.Laws[0].Rates = f.Laws[0].Rates[:1] },
		"law rate":       func(f *api.Fleet) { f.Laws[0].Rates[1][0] = ratio(1, 7) },
		"law exit":       func(f *api.Fleet) { f.Laws[1].Exit[0] = ratio(1, 7) },
		"models":         func(f *api.Fleet) { f.Models = append(f.Models, api.Model{}) },
		"model name":     func(f *api.Fleet) { f.Models[2].Name = "x" },
		"model extents":  func(f *api.Fleet) { f.Models[0].Extents++ },
		"model port":     func(f *api.Fleet) { f.Models[0].Port++ },
		"model law":      func(f *api.Fleet) { f.Models[1].Law = 1 },
		"domains":        func(f *api.Fleet) { f.Domains = f.Domains[:12] },
		"domain name":    func(f *api.Fleet) { f.Domains[0].Name = "x" },
		"domain level":   func(f *api.Fleet) { f.Domains[12].Level = 3 },
		"domain parent":  func(f *api.Fleet) { f.Domains[12].Parent = 6 },
		"domain uplink":  func(f *api.Fleet) { f.Domains[5].Uplink++ },
		"domain shock":   func(f *api.Fleet) { f.Domains[5].Shock = ratio(1, 7) },
		"drives":         func(f *api.Fleet) { f.Drives = nil },
		"drive name":     func(f *api.Fleet) { f.Drives[0].Name = "x" },
		"drive model":    func(f *api.Fleet) { f.Drives[3].Model = 1 },
		"drive machine":  func(f *api.Fleet) { f.Drives[3].Machine = 4 },
		"policies":       func(f *api.Fleet) { f.Policies = append(f.Policies, f.Policies[0]) },
		"policy name":    func(f *api.Fleet) { f.Policies[0].Name = "x" },
		"policy k":       func(f *api.Fleet) { f.Policies[0].K++ },
		"policy m":       func(f *api.Fleet) { f.Policies[0].M++ },
		"policy quorum":  func(f *api.Fleet) { f.Policies[1].Quorum++ },
		"policy spread":  func(f *api.Fleet) { f.Policies[1].Spread[0] = 1 },
		"policy bound":   func(f *api.Fleet) { f.Policies[1].Spread[4] = 1 },
		"policy model":   func(f *api.Fleet) { f.Policies[0].Models[1] = 2 },
		"policy models":  func(f *api.Fleet) { f.Policies[0].Models = f.Policies[0].Models[:1] },
		"models turned":  func(f *api.Fleet) { f.Policies[0].Models = []int{0, 1} },
		"policy repair":  func(f *api.Fleet) { f.Policies[0].Repair[1] = ratio(1, 7) },
		"policy repairs": func(f *api.Fleet) { f.Policies[0].Repair = f.Policies[0].Repair[:1] },
		"policy target":  func(f *api.Fleet) { f.Policies[1].Target = ratio(1, 7) },
		"policy horizon": func(f *api.Fleet) { f.Policies[1].Horizon = ratio(1, 7) },
		"volumes":        func(f *api.Fleet) { f.Volumes = f.Volumes[1:] },
		"volume name":    func(f *api.Fleet) { f.Volumes[2].Name = "y" },
		"volume policy":  func(f *api.Fleet) { f.Volumes[2].Policy = 0 },
		"volumes turned": func(f *api.Fleet) { f.Volumes[0], f.Volumes[1] = f.Volumes[1], f.Volumes[0] },
	} {
		b := sampleFleet()
		change(&b)
		if checkEqual(t, name, a, b) {
			t.Errorf("%s does not count", name)
		}
	}
}

// fracPlaces returns fleets that have a fraction at each place where one may stand.
func fracPlaces(x api.Frac) []api.Fleet {
	return []api.Fleet{
		{Laws: []api.Law{{Start: []api.Frac{x}}}},
		{Laws: []api.Law{{Rates: [][]api.Frac{nil, {ratio(1, 2), x}}}}},
		{Laws: []api.Law{{Exit: []api.Frac{ratio(1, 2), x}}}},
		{Domains: []api.Domain{{Shock: x}}},
		{Policies: []api.Policy{{Repair: []api.Frac{x}}}},
		{Policies: []api.Policy{{Target: x}}},
		{Policies: []api.Policy{{Horizon: x}}},
	}
}

// P10.5: fractions are compared by their values, those that are not valid by their representations.
func TestEqualFractions(t *testing.T) {
	long := nat(new(big.Int).Lsh(big.NewInt(1), 32*128))
	list := []api.Frac{
		{Num: api.Nat{}, Den: api.Nat{}}, {Den: api.Nat{0}}, {Num: api.Nat{0}}, {Neg: true, Num: api.Nat{1}},
		{Num: long, Den: api.Nat{1}}, {Num: long, Den: api.Nat{1, 0}}, {Num: append(long[:129:129], 0), Den: api.Nat{1}}, {Neg: true, Num: long, Den: long}, {Num: api.Nat{1}, Den: long},
	}
	for _, x := range otherFracs() {
		list = append(list, x.(api.Frac))
	}
	found := map[bool]int{}
	for i, x := range list {
		for k, y := range list {
			a, b := fracPlaces(x), fracPlaces(y)
			for n := range a {
				found[checkEqual(t, fmt.Sprintf("fractions %d and %d at place %d", i, k, n), a[n], b[n])]++
			}
		}
	}
	if found[true] < 400 || found[false] < 2000 {
		t.Errorf("equal and not equal: %v", found)
	}
}

// P10.5: nil and empty slices are the same, whichever list it is.
func TestEqualEmpty(t *testing.T) {
	full := api.Fleet{Laws: []api.Law{}, Models: []api.Model{}, Domains: []api.Domain{}, Drives: []api.Drive{}, Policies: []api.Policy{}, Volumes: []api.Volume{}}
	if !fleet.Equal(api.Fleet{}, full) || !fleet.Equal(full, api.Fleet{}) {
		t.Error("empty lists of parts")
	}
	a := api.Fleet{Laws: []api.Law{{Rates: [][]api.Frac{nil}}}, Domains: []api.Domain{{}}, Policies: []api.Policy{{}}}
	b := api.Fleet{
		Laws:     []api.Law{{Start: []api.Frac{}, Rates: [][]api.Frac{{}}, Exit: []api.Frac{}}},
		Domains:  []api.Domain{{Shock: api.Frac{Num: api.Nat{}, Den: api.Nat{}}}},
		Policies: []api.Policy{{Models: []int{}, Repair: []api.Frac{}}},
	}
	if !checkEqual(t, "empty lists", a, b) {
		t.Error("empty lists in parts")
	}
	b.Laws[0].Rates = nil
	if checkEqual(t, "no row", a, b) {
		t.Error("no row is equal to an empty one")
	}
}

// P10.5: every field of the sample with every other value, and random pairs that differ in a few places.
func TestEqualVariants(t *testing.T) {
	a, b, found := sampleFleet(), sampleFleet(), map[bool]int{}
	eachVariant(&b, func(name string) {
		found[checkEqual(t, name, a, b)]++
	})
	r := rand.New(rand.NewSource(7))
	for range 500 {
		a := randomFleet(r)
		b := clone(a)
		for range r.Intn(3) {
			change(r, &a)
		}
		found[checkEqual(t, "random", a, b)]++
		change(r, &b)
		found[checkEqual(t, "random", a, b)]++
	}
	if found[true] < 300 || found[false] < 1500 {
		t.Errorf("equal and not equal: %v", found)
	}
}
