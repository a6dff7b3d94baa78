package feasible_test

import (
	"fmt"
	"math/rand"
	"slices"
	"testing"

	"drydock/api"
	"drydock/feasible"
	"drydock/testfleet"
)

// cutOf returns the cut whose booleans are the binary digits of a number: those of the volumes, then those of the domains, then those of the drives.
func cutOf(f api.Fleet, digits int) api.Cut {
	next := func(n int) []bool {
		var out []bool
		for range n {
			out, digits = append(out, digits&1 == 1), digits>>1
		}
		return out
	}
	c := api.Cut{Volumes: next(len(f.Volumes))}
	for range f.Volumes {
		c.Domains = append(c.Domains, next(len(f.Domains)-1))
	}
	c.Drives = next(len(f.Drives))
	return c
}

// sizeOf returns how many booleans a cut of a fleet has.
func sizeOf(f api.Fleet) int {
	return len(f.Volumes)*len(f.Domains) + len(f.Drives)
}

// clone returns a copy of a cut.
func clone(c api.Cut) api.Cut {
	out := api.Cut{Volumes: slices.Clone(c.Volumes), Drives: slices.Clone(c.Drives)}
	for _, row := range c.Domains {
		out.Domains = append(out.Domains, slices.Clone(row))
	}
	return out
}

// P14.3: all cuts of small fleets: CheckCut accepts those whose capacity is less than the sum of all n(v), and no others.
func TestAllCuts(t *testing.T) {
	chain := []int{0, 1, 2, 3}
	for _, c := range []struct {
		name string
		f    api.Fleet
		room []int
	}{
		{"a volume that fits", testfleet.Build(chain, []int{1}, []api.Drive{{Machine: 4}, {Machine: 4}}, []api.Policy{testfleet.Policy(1, 1, [4]int{}, 0)}, 0), nil},
		{"a volume that does not fit", testfleet.Build(chain, []int{1}, []api.Drive{{Machine: 4}, {Machine: 4}}, []api.Policy{testfleet.Policy(2, 1, [4]int{}, 0)}, 0), nil},
		{"too little room", testfleet.Build(chain, []int{9}, []api.Drive{{Machine: 4}, {Machine: 4}}, []api.Policy{testfleet.Policy(1, 1, [4]int{}, 0)}, 0, 0), []int{1, 2}},
		{"bounds", testfleet.Build(chain, []int{9}, []api.Drive{{Machine: 4}, {Machine: 4}, {Machine: 4}}, []api.Policy{testfleet.Policy(2, 1, [4]int{3, 0, 2, 0}, 0)}, 0), nil},
		{"two machines", testfleet.Build([]int{0, 1, 2, 3, 3}, []int{2, 1}, []api.Drive{{Machine: 5}, {Model: 1, Machine: 4}, {Machine: 5}}, []api.Policy{testfleet.Policy(2, 0, [4]int{0, 0, 0, 1}, 1, 0), testfleet.Policy(1, 1, [4]int{}, 0)}, 0, 1), []int{1, 1, 1}},
	} {
		accepted, exact, below := 0, 0, 0
		for digits := range 1 << sizeOf(c.f) {
			cut := cutOf(c.f, digits)
			want := proves(c.f, c.room, cut)
			checkCut(t, c.name, c.f, c.room, cut, want)
			switch capacity(c.f, c.room, cut) - sumOfAll(c.f) {
			case 0:
				exact++
			case -1:
				below++
			}
			if want {
				accepted++
			}
		}
		placed := exists(c.f, c.room)
		checkEither(t, c.name, c.f, c.room, placed)
		// The cut with nothing but Source has the capacity that is asked for.
		if exact == 0 || placed == (below > 0) || placed == (accepted > 0) {
			t.Errorf("%s: a layout is %t, %d cuts are accepted, %d are at the sum and %d one below it", c.name, placed, accepted, exact, below)
		}
	}
}

// P14.3: random cuts, and cuts that Why returns, with a few booleans changed.
func TestRandomCuts(t *testing.T) {
	r := rand.New(rand.NewSource(5))
	counts := map[bool]int{}
	borders := 0
	for range 3000 {
		f := smallFleet(r)
		room := testfleet.RandomRoom(r.Intn, f)
		c, found := feasible.Why(f, room)
		if !found {
			c = randomCut(r, f)
		}
		for range r.Intn(4) {
			flip(r, f, c)
		}
		want := proves(f, room, c)
		checkCut(t, fmt.Sprint(f), f, room, c, want)
		counts[want]++
		if over := capacity(f, room, c) - sumOfAll(f); over == 0 || over == -1 {
			borders++
		}
	}
	if counts[true] < 500 || counts[false] < 500 || borders < 500 {
		t.Errorf("accepted and refused: %v, %d at the border", counts, borders)
	}
}

// randomCut returns any cut of a fleet.
func randomCut(r *rand.Rand, f api.Fleet) api.Cut {
	c := cutOf(f, 0)
	for range 2 * sizeOf(f) {
		flip(r, f, c)
	}
	return c
}

// flip moves a node of a cut to the other side.
func flip(r *rand.Rand, f api.Fleet, c api.Cut) {
	rows := append([][]bool{c.Volumes, c.Drives}, c.Domains...)
	row := rows[r.Intn(len(rows))]
	if len(row) > 0 {
		i := r.Intn(len(row))
		row[i] = !row[i]
	}
}

// P14.3: of a cut that proves something, each list a little longer and a little shorter; and lists that have the right length only together.
func TestShapesOfCuts(t *testing.T) {
	f, room := testfleet.Sample(), []int{1, 1, 1, 3}
	proof, found := feasible.Why(f, room)
	if !found {
		t.Fatal("no cut")
	}
	checkCut(t, "as it is", f, room, proof, true)
	longer := func(list *[]bool) { *list = append(*list, (*list)[0]) }
	shorter := func(list *[]bool) { *list = (*list)[:len(*list)-1] }
	for name, change := range map[string]func(c *api.Cut){
		"a volume more":             func(c *api.Cut) { longer(&c.Volumes) },
		"a volume less":             func(c *api.Cut) { shorter(&c.Volumes) },
		"no volumes":                func(c *api.Cut) { c.Volumes = nil },
		"a row more":                func(c *api.Cut) { c.Domains = append(c.Domains, make([]bool, 9)) },
		"an empty row more":         func(c *api.Cut) { c.Domains = append(c.Domains, nil) },
		"a row less":                func(c *api.Cut) { c.Domains = c.Domains[:1] },
		"no rows":                   func(c *api.Cut) { c.Domains = nil },
		"one row of all":            func(c *api.Cut) { c.Domains = [][]bool{slices.Concat(c.Domains...)} },
		"one row of all, and none":  func(c *api.Cut) { c.Domains = [][]bool{slices.Concat(c.Domains...), nil} },
		"a domain more":             func(c *api.Cut) { longer(&c.Domains[0]) },
		"a domain less":             func(c *api.Cut) { shorter(&c.Domains[0]) },
		"a domain more, the last":   func(c *api.Cut) { longer(&c.Domains[1]) },
		"a domain less, the last":   func(c *api.Cut) { shorter(&c.Domains[1]) },
		"with domain 0":             func(c *api.Cut) { longer(&c.Domains[0]); longer(&c.Domains[1]) },
		"one more and one less":     func(c *api.Cut) { longer(&c.Domains[0]); shorter(&c.Domains[1]) },
		"one less and one more":     func(c *api.Cut) { shorter(&c.Domains[0]); longer(&c.Domains[1]) },
		"no domains":                func(c *api.Cut) { c.Domains[0], c.Domains[1] = nil, nil },
		"a drive more":              func(c *api.Cut) { longer(&c.Drives) },
		"a drive less":              func(c *api.Cut) { shorter(&c.Drives) },
		"no drives":                 func(c *api.Cut) { c.Drives = nil },
		"a volume for a drive":      func(c *api.Cut) { longer(&c.Volumes); shorter(&c.Drives) },
		"a drive for a volume":      func(c *api.Cut) { shorter(&c.Volumes); longer(&c.Drives) },
		"a drive for a domain":      func(c *api.Cut) { shorter(&c.Domains[1]); longer(&c.Drives) },
		"a volume for a domain":     func(c *api.Cut) { longer(&c.Volumes); shorter(&c.Domains[0]) },
		"nothing":                   func(c *api.Cut) { *c = api.Cut{} },
		"the nodes of a whole cut":  func(c *api.Cut) { c.Volumes = append([]bool{true, false}, c.Volumes...) },
		"the sides of many volumes": func(c *api.Cut) { c.Volumes = make([]bool, 1<<20) },
		"the sides of many drives":  func(c *api.Cut) { c.Drives = make([]bool, 1<<20) },
		"the sides of many domains": func(c *api.Cut) { c.Domains[1] = make([]bool, 1<<20) },
		"many rows":                 func(c *api.Cut) { c.Domains = make([][]bool, 1<<20) },
	} {
		c := clone(proof)
		change(&c)
		if proves(f, room, c) {
			t.Errorf("%s: the model of the tests is wrong", name)
		}
		checkCut(t, name, f, room, c, false)
	}
}

// P14.3: a fleet of domain 0 only has cuts with empty rows; a fleet without volumes has no cut that proves something.
func TestCutsOfLittle(t *testing.T) {
	policies := []api.Policy{testfleet.Policy(1, 0, [4]int{}, 0)}
	f := testfleet.Build(nil, []int{1}, nil, policies, 0, 0)
	for digits := range 4 {
		c := cutOf(f, digits)
		checkCut(t, "only domain 0", f, nil, c, digits > 0)
		c.Domains = [][]bool{{}, {}}
		c.Drives = []bool{}
		checkCut(t, "only domain 0, with empty rows", f, nil, c, digits > 0)
		c.Domains = [][]bool{{}}
		checkCut(t, "only domain 0, a row less", f, nil, c, false)
		c.Domains = [][]bool{{}, {}, {}}
		checkCut(t, "only domain 0, a row more", f, nil, c, false)
		c.Domains = [][]bool{{}, {true}}
		checkCut(t, "only domain 0, with domain 0", f, nil, c, false)
	}
	checkNoLayout(t, "only domain 0", f, nil)
	f = testfleet.Build([]int{0, 1, 2, 3}, []int{1}, []api.Drive{{Machine: 4}, {Machine: 4}}, policies)
	for digits := range 4 {
		checkCut(t, "no volumes", f, []int{0, 0}, cutOf(f, digits), false)
	}
	checkPlaced(t, "no volumes", f, []int{0, 0})
}

// P14.3: rooms, bounds and models one by one at the border: what is one below the sum of all n(v) proves something, the sum itself does not.
func TestBorderOfCuts(t *testing.T) {
	f := testfleet.Build([]int{0, 1, 2, 3}, []int{2, 1}, []api.Drive{{Machine: 4}, {Machine: 4}, {Model: 1, Machine: 4}}, []api.Policy{testfleet.Policy(2, 1, [4]int{3, 0, 3, 0}, 0, 1), testfleet.Policy(1, 1, [4]int{}, 1, 0)}, 0, 1)
	above := api.Cut{Volumes: []bool{true, true}, Domains: [][]bool{{true, true, true, true}, {true, true, true, true}}, Drives: []bool{true, true, true}}
	checkCut(t, "the rooms are as great as the sum", f, nil, above, false)
	checkCut(t, "less room on drive 0", f, []int{1, 2, 1}, above, true)
	checkCut(t, "less room on drive 2", f, []int{2, 2, 0}, above, true)
	checkCut(t, "rooms for other drives", f, []int{0, 0}, above, false)
	rack := api.Cut{Volumes: []bool{true, false}, Domains: [][]bool{{true, true, false, false}, {false, false, false, false}}, Drives: make([]bool, 3)}
	checkCut(t, "the Spread of racks is 3", f, nil, rack, false)
	f.Policies[0].Spread[3] = 2
	checkCut(t, "the Spread of racks is 2", f, nil, rack, true)
	f.Policies[0].Spread[3] = 0
	checkCut(t, "the Spread of racks is 0", f, nil, rack, false)
	drives := api.Cut{Volumes: []bool{true, false}, Domains: [][]bool{{true, true, true, true}, {false, false, false, false}}, Drives: make([]bool, 3)}
	checkCut(t, "three drives are allowed", f, nil, drives, false)
	f.Policies[0].Models = []int{0}
	checkCut(t, "two drives are allowed", f, nil, drives, true)
	checkCut(t, "no volume with its domains", f, nil, api.Cut{Volumes: []bool{false, false}, Domains: drives.Domains, Drives: make([]bool, 3)}, false)
}
