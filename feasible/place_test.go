package feasible_test

import (
	"fmt"
	"math/rand"
	"slices"
	"testing"

	"drydock/api"
	"drydock/feasible"
	"drydock/fleet"
	"drydock/maxflow"
	"drydock/syntax"
	"drydock/testfleet"
	"drydock/topology"
)

// The example of the chapter: three fragments, at most one in a machine, two machines.
func TestExample(t *testing.T) {
	source, _, _ := syntax.Parse(`extent 1;
		law l { start 1; rates 0; exit 1; }
		model m { extents 4; port 1; law l; }
		site s uplink 1 { room r uplink 1 { rack k uplink 1 {
			machine a uplink 1 { drive a.1 m; drive a.2 m; }
			machine b uplink 1 { drive b.1 m; drive b.2 m; }
		} } }
		policy p { code 2 + 1; quorum 2; most 1 machine; on m; repair 1; target 0 in 1; }
		volume v p;`)
	f, err, _ := fleet.Compile(source)
	if err != api.OK {
		t.Fatal("no fleet")
	}
	checkNoLayout(t, "two machines", f, nil)
	alone := api.Cut{Volumes: []bool{true}, Domains: [][]bool{{true, true, true, false, false}}, Drives: make([]bool, 4)}
	checkCut(t, "all above the machines", f, nil, alone, true)
	if got := capacity(f, nil, alone); got != 2 {
		t.Errorf("the cut above the machines has the capacity %d", got)
	}
	n, _ := feasible.Network(f, nil)
	side := make([]bool, n.Nodes)
	copy(side, []bool{true, false, true, true, true, true})
	if got, ok := maxflow.Capacity(n, side); got != 2 || !ok {
		t.Errorf("in the network it has the capacity %d, %t", got, ok)
	}
	f.Policies[0].Spread[4] = 2
	checkPlaced(t, "two in a machine", f, nil)
	checkCut(t, "two in a machine", f, nil, alone, false)
}

// P14.2 and P14.3: rooms and bounds of the sample with which there are layouts, and without which there are not.
func TestSample(t *testing.T) {
	for _, c := range []struct {
		name   string
		room   []int
		change func(f *api.Fleet)
		placed bool
	}{
		{"as it is", nil, nil, true},
		{"the least room", []int{2, 1, 1, 1}, nil, true},
		{"the least room, otherwise", []int{1, 0, 2, 2}, nil, true},
		{"too little room on one side", []int{1, 1, 1, 3}, nil, false},
		{"a drive less", []int{3, 1, 3, 0}, nil, false},
		{"another drive less", []int{0, 1, 3, 3}, nil, false},
		{"the drive less that one volume may not use", []int{3, 0, 3, 3}, nil, true},
		{"all on a site", []int{3, 0, 3, 1}, func(f *api.Fleet) { f.Policies[1].Spread[2] = 2 }, true},
		{"one in a site", nil, func(f *api.Fleet) { f.Policies[0].Spread[1] = 1 }, false},
		{"one in a rack", nil, func(f *api.Fleet) { f.Policies[0].Spread[3] = 1 }, false},
		{"one in a room, without other bounds", nil, func(f *api.Fleet) { f.Policies[1].Spread[1], f.Policies[1].Spread[3] = 0, 0 }, true},
		{"another model", nil, func(f *api.Fleet) { f.Policies[0].Models = []int{1} }, false},
		{"one model for all", []int{2, 1, 1, 2}, func(f *api.Fleet) { f.Policies[1].Models = []int{0} }, true},
		{"one model for all and less room", []int{2, 1, 1, 1}, func(f *api.Fleet) { f.Policies[1].Models = []int{0} }, false},
		{"four fragments", nil, func(f *api.Fleet) { f.Policies[0].K, f.Policies[0].Quorum = 3, 3 }, false},
		{"no room", make([]int, 4), nil, false},
		{"rooms that do not count", make([]int, 5), nil, true},
		{"no room and no volumes", make([]int, 4), func(f *api.Fleet) { f.Volumes = nil }, true},
		{"no drives", nil, func(f *api.Fleet) { f.Drives = nil }, false},
		{"no drives and no volumes", nil, func(f *api.Fleet) { f.Drives, f.Volumes = nil, nil }, true},
		{"no domains", nil, func(f *api.Fleet) { f.Drives, f.Domains = nil, f.Domains[:1] }, false},
		{"no domains and no volumes", nil, func(f *api.Fleet) { f.Drives, f.Domains, f.Volumes = nil, f.Domains[:1], nil }, true},
	} {
		f := testfleet.Sample()
		if c.change != nil {
			c.change(&f)
		}
		if fleet.Validate(f) != api.OK {
			t.Fatalf("%s: the fleet is not valid", c.name)
		}
		if got := exists(f, c.room); got != c.placed {
			t.Errorf("%s: that there is a layout, is %t", c.name, got)
		}
		checkEither(t, c.name, f, c.room, c.placed)
	}
}

// P14.2: against all layouts of fleets with up to three drives.
func TestAllLayouts(t *testing.T) {
	r := rand.New(rand.NewSource(2))
	counts := map[bool]int{}
	for counts[true]+counts[false] < 250 {
		f := randomFleet(r, 9, 3, 2, 3)
		if sumOfAll(f) > 5 {
			continue
		}
		room, placed := testfleet.RandomRoom(r.Intn, f), false
		for l := range testfleet.Layouts(f) {
			placed = placed || topology.Holds(f, l, room)
		}
		if exists(f, room) != placed {
			t.Errorf("%v: the model of the tests is wrong", f)
		}
		checkEither(t, fmt.Sprint(f, room), f, room, placed)
		counts[placed]++
	}
	if counts[true] < 50 || counts[false] < 50 {
		t.Errorf("with and without a layout: %v", counts)
	}
}

// P14.2 and P14.3: against all layouts of random fleets with up to six drives.
func TestRandomFleets(t *testing.T) {
	r := rand.New(rand.NewSource(3))
	counts := map[bool]int{}
	for range 6000 {
		f := smallFleet(r)
		var room []int
		if r.Intn(2) == 0 {
			room = testfleet.RandomRoom(r.Intn, f)
		}
		placed := exists(f, room)
		checkEither(t, fmt.Sprint(f, room), f, room, placed)
		if len(f.Volumes) > 1 && len(f.Drives) > 3 {
			counts[placed]++
		}
	}
	if counts[true] < 200 || counts[false] < 200 {
		t.Errorf("with and without a layout: %v", counts)
	}
}

// P14.2 and P14.3: two volumes of different policies on four machines in two racks in one room, with all bounds and all rooms of up to two.
func TestAllBoundsAndRooms(t *testing.T) {
	drives := []api.Drive{{Machine: 7}, {Machine: 5}, {Machine: 6}, {Model: 1, Machine: 6}, {Model: 1, Machine: 8}}
	f := testfleet.Build([]int{0, 1, 2, 2, 4, 3, 3, 4}, []int{2, 2}, drives, []api.Policy{testfleet.Policy(2, 1, [4]int{}, 0, 1), testfleet.Policy(1, 1, [4]int{}, 0)}, 0, 1)
	counts := map[bool]int{}
	for bounds := range 81 {
		f.Policies[0].Spread = [api.Levels]int{3: bounds % 3, 4: bounds / 3 % 3}
		f.Policies[1].Spread = [api.Levels]int{3: bounds / 9 % 3, 4: bounds / 27}
		for rooms := range 243 {
			room := []int{rooms % 3, rooms / 3 % 3, rooms / 9 % 3, rooms / 27 % 3, rooms / 81}
			placed := exists(f, room)
			checkEither(t, fmt.Sprint(f.Policies, room), f, room, placed)
			counts[placed]++
		}
	}
	if counts[true] < 1000 || counts[false] < 1000 {
		t.Errorf("with and without a layout: %v", counts)
	}
}

// P14.2 and P14.3: large fleets in which no more is allowed than one hidden layout needs, and then a little less than is needed.
func TestHiddenLayouts(t *testing.T) {
	r := rand.New(rand.NewSource(4))
	fragments, models := 0, 0
	for range 150 {
		f := randomFleet(r, api.MaxDomains, api.MaxDrives, api.MaxVolumes, api.MaxFragments)
		l := testfleet.Hide(r.Intn, &f)
		if l == nil {
			continue
		}
		fragments += sumOfAll(f)
		room := topology.Loads(f, l)
		checkPlaced(t, fmt.Sprint(f, room), f, room)
		for drive, most := range room {
			less := slices.Clone(room)
			less[drive]--
			if most > 0 {
				checkNoLayout(t, fmt.Sprint(f, less), f, less)
			}
		}
		for v := range f.Volumes {
			if other := forbid(f, v); other.Policies != nil {
				models++
				checkNoLayout(t, fmt.Sprint(other, room), other, room)
			}
		}
	}
	if fragments < 1000 || models < 20 {
		t.Errorf("%d fragments are placed, and %d times a model is not allowed any more", fragments, models)
	}
}

// forbid returns the fleet without one model of the policy of a volume, if the drives of the other models that the policy allows are too few, and otherwise no fleet.
func forbid(f api.Fleet, v int) api.Fleet {
	f.Policies = slices.Clone(f.Policies)
	p := &f.Policies[f.Volumes[v].Policy]
	p.Models = slices.Clone(p.Models[1:])
	left := 0
	for _, d := range f.Drives {
		if slices.Contains(p.Models, d.Model) {
			left++
		}
	}
	if len(p.Models) == 0 || left >= testfleet.Fragments(f, v) {
		return api.Fleet{}
	}
	return f
}

// P14.2 and P14.3: the greatest fleet has room for all fragments and for no more.
func TestGreatestFleet(t *testing.T) {
	f := testfleet.Greatest()
	checkPlaced(t, "the greatest fleet", f, nil)
	for drive := range f.Drives {
		room := slices.Repeat([]int{4}, len(f.Drives))
		room[drive] = 3
		checkNoLayout(t, fmt.Sprint("less room on drive ", drive), f, room)
	}
	f.Policies[0].Spread[1] = 3
	checkNoLayout(t, "a smaller Spread of sites", f, nil)
	f.Policies[0].Spread[1] = 5
	checkPlaced(t, "a greater Spread of sites", f, nil)
	for _, drive := range []int{17, 19, 21} {
		f.Drives[drive].Machine = f.Drives[23].Machine
	}
	checkNoLayout(t, "four drives in a machine", f, nil)
	f.Policies[0].Spread[4] = 2
	checkPlaced(t, "four drives in a machine, and two fragments", f, nil)
}
