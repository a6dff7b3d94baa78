package fleet_test

import (
	"fmt"
	"math"
	"math/rand"
	"strings"
	"testing"

	"drydock/api"
	"drydock/lexer"
)

// P10.2: the sample, the least fleet, and no fleet.
func TestValid(t *testing.T) {
	checkValidate(t, "the sample", sampleFleet(), true)
	least := api.Fleet{Extent: 1, Domains: []api.Domain{{Parent: -1, Shock: ratio(0, 1)}}}
	checkValidate(t, "the least fleet", least, true)
	checkValidate(t, "nothing", api.Fleet{}, false)
	checkValidate(t, "no domain", api.Fleet{Extent: 1}, false)
}

// case of a fleet that differs from the sample in one thing, and whether it is valid.
type fleetCase struct {
	name   string
	ok     bool
	change func(f *api.Fleet)
}

func checkCases(t *testing.T, list []fleetCase) {
	t.Helper()
	for _, c := range list {
		f := sampleFleet()
		c.change(&f)
		checkValidate(t, c.name, f, c.ok)
		if valid(f) != c.ok {
			t.Errorf("%s: the model says %t", c.name, valid(f))
		}
	}
}

// P10.2: Extent, models, drives and volumes, each condition by itself and at its bounds.
func TestValidNumbers(t *testing.T) {
	checkCases(t, []fleetCase{
		{"extent 0", false, func(f *api.Fleet) { f.Extent = 0 }},
		{"extent 1", true, func(f *api.Fleet) { f.Extent = 1 }},
		{"extent 4", true, func(f *api.Fleet) { f.Extent = 4 }},
		{"extent 5", false, func(f *api.Fleet) { f.Extent = 5 }},
		{"extent below 0", false, func(f *api.Fleet) { f.Extent = math.MinInt }},
		{"a law that is not valid", false, func(f *api.Fleet) { f.Laws[0].Exit[1] = ratio(0, 1) }},
		{"a law that nothing uses is not valid", false, func(f *api.Fleet) { f.Models[1].Law = 1; f.Laws[0].Start[0] = ratio(1, 2) }},
		{"extents 0", false, func(f *api.Fleet) { f.Models[0].Extents = 0 }},
		{"extents 1", true, func(f *api.Fleet) { f.Models[0].Extents = 1 }},
		{"extents 16", true, func(f *api.Fleet) { f.Models[0].Extents = 16 }},
		{"extents 17", false, func(f *api.Fleet) { f.Models[2].Extents = 17 }},
		{"port 0", false, func(f *api.Fleet) { f.Models[0].Port = 0 }},
		{"port 1", true, func(f *api.Fleet) { f.Models[1].Port = 1 }},
		{"port 64", true, func(f *api.Fleet) { f.Models[2].Port = 64 }},
		{"port 65", false, func(f *api.Fleet) { f.Models[2].Port = 65 }},
		{"law -1", false, func(f *api.Fleet) { f.Models[2].Law = -1 }},
		{"law 0", true, func(f *api.Fleet) { f.Models[2].Law = 0 }},
		{"law 2", false, func(f *api.Fleet) { f.Models[0].Law = 2 }},
		{"law, a large number", false, func(f *api.Fleet) { f.Models[0].Law = math.MaxInt }},
		{"no law", false, func(f *api.Fleet) { f.Laws = nil }},
		{"model -1", false, func(f *api.Fleet) { f.Drives[0].Model = -1 }},
		{"model 2", true, func(f *api.Fleet) { f.Drives[0].Model = 2 }},
		{"model 3", false, func(f *api.Fleet) { f.Drives[3].Model = 3 }},
		{"machine -1", false, func(f *api.Fleet) { f.Drives[0].Machine = -1 }},
		{"machine: the fleet", false, func(f *api.Fleet) { f.Drives[0].Machine = 0 }},
		{"machine: a site", false, func(f *api.Fleet) { f.Drives[0].Machine = 1 }},
		{"machine: a rack", false, func(f *api.Fleet) { f.Drives[0].Machine = 3 }},
		{"machine: another one", true, func(f *api.Fleet) { f.Drives[0].Machine = 12 }},
		{"machine 13", false, func(f *api.Fleet) { f.Drives[3].Machine = 13 }},
		{"drives in another order", true, func(f *api.Fleet) { f.Drives[0], f.Drives[3] = f.Drives[3], f.Drives[0] }},
		{"no drives", true, func(f *api.Fleet) { f.Drives = nil }},
		{"policy -1", false, func(f *api.Fleet) { f.Volumes[0].Policy = -1 }},
		{"policy 0", true, func(f *api.Fleet) { f.Volumes[0].Policy = 0 }},
		{"policy 2", false, func(f *api.Fleet) { f.Volumes[2].Policy = 2 }},
		{"no policies", false, func(f *api.Fleet) { f.Policies = nil }},
		{"no volumes", true, func(f *api.Fleet) { f.Volumes = nil }},
	})
}

// P10.2: the tree of domains, each condition by itself and at its bounds.
func TestValidDomains(t *testing.T) {
	minus := api.Frac{Neg: true, Num: api.Nat{0}, Den: api.Nat{3, 0}}
	checkCases(t, []fleetCase{
		{"no domain", false, func(f *api.Fleet) { f.Domains, f.Drives = nil, nil }},
		{"the fleet is missing", false, func(f *api.Fleet) { f.Domains, f.Drives = f.Domains[1:], nil }},
		{"the fleet has a name", false, func(f *api.Fleet) { f.Domains[0].Name = "fleet" }},
		{"the fleet has the level 1", false, func(f *api.Fleet) { f.Domains[0].Level = 1 }},
		{"the fleet alone has the level 1", false, func(f *api.Fleet) { f.Domains, f.Drives = f.Domains[:1], nil; f.Domains[0].Level = 1 }},
		{"the fleet has the level -1", false, func(f *api.Fleet) { f.Domains[0].Level = -1 }},
		{"the fleet has the parent 0", false, func(f *api.Fleet) { f.Domains[0].Parent = 0 }},
		{"the fleet has the parent -2", false, func(f *api.Fleet) { f.Domains[0].Parent = -2 }},
		{"the fleet has an uplink", false, func(f *api.Fleet) { f.Domains[0].Uplink = 1 }},
		{"the fleet has a shock", false, func(f *api.Fleet) { f.Domains[0].Shock = ratio(1, 9) }},
		{"the fleet has no fraction as shock", false, func(f *api.Fleet) { f.Domains[0].Shock = api.Frac{} }},
		{"the fleet has another form of 0 as shock", true, func(f *api.Fleet) { f.Domains[0].Shock = minus }},
		{"the fleet alone", true, func(f *api.Fleet) { f.Domains, f.Drives = f.Domains[:1], nil }},
		{"parent -1", false, func(f *api.Fleet) { f.Domains[1].Parent = -1 }},
		{"parent: itself", false, func(f *api.Fleet) { f.Domains[1].Parent = 1 }},
		{"parent: a later one", false, func(f *api.Fleet) { f.Domains[2].Parent = 9 }},
		{"parent: another one of the level", true, func(f *api.Fleet) { f.Domains[10].Parent = 1 }},
		{"parent: one of its own level", false, func(f *api.Fleet) { f.Domains[7].Parent = 5 }},
		{"parent: one two levels above", false, func(f *api.Fleet) { f.Domains[7].Parent = 2 }},
		{"parent: not there", false, func(f *api.Fleet) { f.Domains[7].Parent = 13 }},
		{"parent: a large number", false, func(f *api.Fleet) { f.Domains[12].Parent = math.MaxInt }},
		{"level 0", false, func(f *api.Fleet) { f.Domains[9].Level = 0 }},
		{"level 0 below 0", false, func(f *api.Fleet) { f.Domains[8].Level, f.Domains[8].Parent = 0, -1 }},
		{"level below all", false, func(f *api.Fleet) { f.Domains[8].Level = math.MinInt }},
		{"level 3 for a machine", false, func(f *api.Fleet) { f.Domains[5].Level = 3 }},
		{"level 5 below a machine", false, func(f *api.Fleet) { f.Domains[8].Level, f.Domains[8].Parent = 5, 5 }},
		{"another machine", true, func(f *api.Fleet) { f.Domains[8].Level, f.Domains[8].Parent = 4, 6 }},
		{"domains in another order", true, func(f *api.Fleet) { f.Domains[8], f.Domains[9], f.Domains[10].Parent = f.Domains[9], f.Domains[8], 8 }},
		{"uplink 0", false, func(f *api.Fleet) { f.Domains[1].Uplink = 0 }},
		{"uplink 1", true, func(f *api.Fleet) { f.Domains[1].Uplink = 1 }},
		{"uplink 64", true, func(f *api.Fleet) { f.Domains[12].Uplink = 64 }},
		{"uplink 65", false, func(f *api.Fleet) { f.Domains[12].Uplink = 65 }},
		{"shock below 0", false, func(f *api.Fleet) { f.Domains[12].Shock = ratio(-1, 9) }},
		{"shock: no fraction", false, func(f *api.Fleet) { f.Domains[1].Shock = api.Frac{} }},
		{"shock 0", true, func(f *api.Fleet) { f.Domains[1].Shock = minus }},
		{"shock: the greatest", true, func(f *api.Fleet) { f.Domains[1].Shock = loose(1<<32-1, 1, 1<<61) }},
		{"shock: one more", false, func(f *api.Fleet) { f.Domains[1].Shock = ratio(1<<32, 1) }},
		{"shock: the least", true, func(f *api.Fleet) { f.Domains[1].Shock = ratio(1, 1<<32-1) }},
		{"shock: less", false, func(f *api.Fleet) { f.Domains[12].Shock = ratio(1, 1<<32) }},
	})
}

// P10.2: policies, each condition by itself and at its bounds.
func TestValidPolicies(t *testing.T) {
	code := func(k, m, quorum, repair int) func(f *api.Fleet) {
		return func(f *api.Fleet) {
			p := &f.Policies[0]
			p.K, p.M, p.Quorum, p.Repair = k, m, quorum, nil
			for range repair {
				p.Repair = append(p.Repair, ratio(1, 9))
			}
		}
	}
	list := []fleetCase{
		{"6 + 2", true, code(6, 2, 6, 2)}, {"4 + 4", true, code(4, 4, 8, 4)}, {"1 + 4", true, code(1, 4, 1, 4)}, {"6 + 0", true, code(6, 0, 6, 1)}, {"1 + 1", true, code(1, 1, 2, 1)},
		{"6 + 3", false, code(6, 3, 6, 3)}, {"5 + 4", false, code(5, 4, 6, 4)}, {"7 + 0", false, code(7, 0, 7, 1)}, {"0 + 1", false, code(0, 1, 1, 1)}, {"0 + 0", false, code(0, 0, 0, 1)}, {"1 + 5", false, code(1, 5, 2, 5)}, {"2 - 1", false, code(2, -1, 2, 1)}, {"-1 + 4", false, code(-1, 4, 1, 4)},
		{"large K", false, code(math.MaxInt, 1, math.MaxInt, 1)}, {"large M", false, code(1, math.MaxInt, 1, 1)}, {"small M", false, code(1, math.MinInt, 1, 1)},
		{"quorum below K", false, code(3, 2, 2, 2)}, {"quorum K", true, code(3, 2, 3, 2)}, {"quorum K + M", true, code(3, 2, 5, 2)}, {"quorum above K + M", false, code(3, 2, 6, 2)}, {"quorum without parity", false, code(3, 0, 4, 1)},
		{"no repair", false, code(3, 2, 4, 0)}, {"one repair for two", false, code(3, 2, 4, 1)}, {"three repairs for two", false, code(3, 2, 4, 3)}, {"no repair for none", false, code(3, 0, 3, 0)}, {"two repairs for none", false, code(3, 0, 3, 2)},
		{"no models", false, func(f *api.Fleet) { f.Policies[0].Models = nil }},
		{"models -1", false, func(f *api.Fleet) { f.Policies[0].Models[1] = -1 }},
		{"models 3", false, func(f *api.Fleet) { f.Policies[0].Models[0] = 3 }},
		{"models twice", false, func(f *api.Fleet) { f.Policies[0].Models[0] = 0 }},
		{"models twice, not in a row", false, func(f *api.Fleet) { f.Policies[0].Models = []int{0, 1, 2, 0} }},
		{"all models", true, func(f *api.Fleet) { f.Policies[0].Models = []int{2, 0, 1} }},
		{"repair 0", false, func(f *api.Fleet) { f.Policies[0].Repair[1] = ratio(0, 1) }},
		{"repair below 0", false, func(f *api.Fleet) { f.Policies[0].Repair[0] = ratio(-1, 2) }},
		{"repair: no fraction", false, func(f *api.Fleet) { f.Policies[0].Repair[1] = api.Frac{} }},
		{"repair: the greatest", true, func(f *api.Fleet) { f.Policies[0].Repair[1] = loose(1<<32-1, 1, 1<<50) }},
		{"repair: one more", false, func(f *api.Fleet) { f.Policies[0].Repair[1] = ratio(1<<32, 1) }},
		{"repair: the least", true, func(f *api.Fleet) { f.Policies[0].Repair[0] = ratio(1, 1<<32-1) }},
		{"repair: less", false, func(f *api.Fleet) { f.Policies[0].Repair[0] = ratio(1, 1<<32) }},
		{"target 0", true, func(f *api.Fleet) { f.Policies[0].Target = api.Frac{Neg: true, Den: api.Nat{2}} }},
		{"target 1", true, func(f *api.Fleet) { f.Policies[0].Target = loose(5, 5, 1<<60) }},
		{"target above 1", false, func(f *api.Fleet) { f.Policies[0].Target = ratio(1<<32-1, 1<<32-2) }},
		{"target below 1", true, func(f *api.Fleet) { f.Policies[0].Target = ratio(1<<32-2, 1<<32-1) }},
		{"target below 1, too long", false, func(f *api.Fleet) { f.Policies[0].Target = ratio(1<<32-1, 1<<32) }},
		{"target below 0", false, func(f *api.Fleet) { f.Policies[0].Target = ratio(-1, 9) }},
		{"target: no fraction", false, func(f *api.Fleet) { f.Policies[0].Target = api.Frac{Num: api.Nat{1}} }},
		{"horizon 0", true, func(f *api.Fleet) { f.Policies[0].Horizon = ratio(0, 1) }},
		{"horizon below 0", false, func(f *api.Fleet) { f.Policies[0].Horizon = ratio(-1, 9) }},
		{"horizon: no fraction", false, func(f *api.Fleet) { f.Policies[0].Horizon = api.Frac{} }},
		{"horizon: the greatest", true, func(f *api.Fleet) { f.Policies[0].Horizon = ratio(1<<32-1, 1) }},
		{"horizon: one more", false, func(f *api.Fleet) { f.Policies[0].Horizon = ratio(1<<32, 1) }},
		{"horizon: too long below", false, func(f *api.Fleet) { f.Policies[0].Horizon = ratio(1<<32-1, 1<<32) }},
	}
	for level := range 5 {
		for bound, ok := range map[int]bool{math.MinInt: false, -1: false, 0: true, 1: level > 0, 8: level > 0, 9: false, math.MaxInt: false} {
			name := fmt.Sprintf("most %d of level %d", bound, level)
			list = append(list, fleetCase{name, ok, func(f *api.Fleet) { f.Policies[0].Spread[level] = bound }})
		}
	}
	checkCases(t, list)
}

// P10.2: names of all kinds of parts, alone and in pairs.
func TestValidNames(t *testing.T) {
	kinds := []struct {
		name  string
		names func(f *api.Fleet) []*string
	}{
		{"law", func(f *api.Fleet) []*string { return []*string{&f.Laws[0].Name, &f.Laws[1].Name} }},
		{"model", func(f *api.Fleet) []*string {
			return []*string{&f.Models[0].Name, &f.Models[1].Name, &f.Models[2].Name}
		}},
		{"node", func(f *api.Fleet) []*string {
			return []*string{&f.Domains[1].Name, &f.Domains[5].Name, &f.Domains[12].Name, &f.Drives[0].Name, &f.Drives[3].Name}
		}},
		{"policy", func(f *api.Fleet) []*string { return []*string{&f.Policies[0].Name, &f.Policies[1].Name} }},
		{"volume", func(f *api.Fleet) []*string { return []*string{&f.Volumes[0].Name, &f.Volumes[2].Name} }},
	}
	for a, kind := range kinds {
		var list []fleetCase
		for i := range kind.names(new(sampleFleet())) {
			for _, name := range []string{"", "a", "Z.9-", "9", "-", ".a", "a b", "a\n", "\xc3\xa4", strings.Repeat("n", 16), strings.Repeat("n", 17)} {
				list = append(list, fleetCase{kind.name + " " + name, lexer.IsName(name), func(f *api.Fleet) { *kind.names(f)[i] = name }})
			}
			for b, other := range kinds {
				for k := range other.names(new(sampleFleet())) {
					one := a == b && i != k
					list = append(list, fleetCase{fmt.Sprintf("%s %d as %s %d", kind.name, i, other.name, k), !one, func(f *api.Fleet) { *kind.names(f)[i] = *other.names(f)[k] }})
				}
			}
		}
		checkCases(t, list)
	}
}

// P10.2: as many parts of each kind as are allowed, and one more.
func TestValidSizes(t *testing.T) {
	for _, c := range []struct {
		name string
		most int
		add  func(f *api.Fleet, name string)
		size func(f api.Fleet) int
	}{
		{"laws", 4, func(f *api.Fleet, name string) {
			l := law("1", "1", "0")
			l.Name = name
			f.Laws = append(f.Laws, l)
		}, func(f api.Fleet) int { return len(f.Laws) }},
		{"models", 4, func(f *api.Fleet, name string) {
			f.Models = append(f.Models, api.Model{Name: name, Extents: 1, Port: 1})
		}, func(f api.Fleet) int { return len(f.Models) }},
		{"domains", 40, func(f *api.Fleet, name string) {
			f.Domains = append(f.Domains, api.Domain{Name: name, Level: 4, Parent: 3, Uplink: 1, Shock: ratio(0, 1)})
		}, func(f api.Fleet) int { return len(f.Domains) }},
		{"drives", 24, func(f *api.Fleet, name string) { f.Drives = append(f.Drives, api.Drive{Name: name, Machine: 5}) }, func(f api.Fleet) int { return len(f.Drives) }},
		{"policies", 4, func(f *api.Fleet, name string) {
			p := clone(f.Policies[1])
			p.Name = name
			f.Policies = append(f.Policies, p)
		}, func(f api.Fleet) int { return len(f.Policies) }},
		{"volumes", 12, func(f *api.Fleet, name string) { f.Volumes = append(f.Volumes, api.Volume{Name: name}) }, func(f api.Fleet) int { return len(f.Volumes) }},
	} {
		f := sampleFleet()
		for i := c.size(f); i <= c.most+2; i++ {
			checkValidate(t, fmt.Sprint(i, " ", c.name), f, i <= c.most)
			c.add(&f, fmt.Sprint("n", i))
		}
	}
}

// P10.2: every field of the sample with every other value, and random fleets with some fields changed.
func TestValidVariants(t *testing.T) {
	f, found := sampleFleet(), map[bool]int{}
	eachVariant(&f, func(name string) {
		found[checkValidate(t, name, f, valid(f))]++
	})
	r := rand.New(rand.NewSource(3))
	for range 1500 {
		f := randomFleet(r)
		for range r.Intn(3) {
			change(r, &f)
		}
		found[checkValidate(t, "random", f, valid(f))]++
	}
	if found[true] < 900 || found[false] < 1500 {
		t.Errorf("fleets that are valid and that are not: %v", found)
	}
}
