package transition_test

import (
	"fmt"
	"math/rand"
	"slices"
	"testing"

	"drydock/api"
	"drydock/feasible"
	"drydock/mincost"
	"drydock/testfleet"
	"drydock/topology"
	"drydock/transition"
)

// networkOfSample returns the network of the sample, in which the arcs with these ends have the Cost 1: 2 and 3 are the volumes, from 4 on stands volume 0 in the domains, from 13 on volume 1, from 22 on the drives.
func networkOfSample(rooms [4]int, charged ...[2]int) api.Network {
	n := api.Network{Nodes: 26, Source: 0, Sink: 1}
	for _, a := range [][3]int{
		// Volume 0: two fragments, at most one in a room and two in a rack.
		{0, 2, 2},
		{2, 4, 2}, {2, 5, 2},
		{5, 6, 1}, {4, 7, 1},
		{6, 8, 2}, {7, 9, 2},
		{8, 10, 2}, {9, 11, 2}, {9, 12, 2},
		{12, 22, 1}, {10, 23, 1}, {11, 24, 1}, {10, 25, 1},
		// Volume 1: three fragments, at most two in a site and one in a machine, none on drive 1.
		{0, 3, 3},
		{3, 13, 2}, {3, 14, 2},
		{14, 15, 3}, {13, 16, 3},
		{15, 17, 3}, {16, 18, 3},
		{17, 19, 1}, {18, 20, 1}, {18, 21, 1},
		{21, 22, 1}, {20, 24, 1}, {19, 25, 1},
		// The drives.
		{22, 1, rooms[0]}, {23, 1, rooms[1]}, {24, 1, rooms[2]}, {25, 1, rooms[3]},
	} {
		arc := api.Arc{From: a[0], To: a[1], Cap: a[2]}
		if slices.Contains(charged, [2]int{a[0], a[1]}) {
			arc.Cost = 1
		}
		n.Arcs = append(n.Arcs, arc)
	}
	return n
}

// P15.2: the network of the sample arc by arc, with layouts that hold and others.
func TestNetworkOfSample(t *testing.T) {
	// The arcs to the drives, of volume 0 and of volume 1.
	a0, a1, a2, a3 := [2]int{12, 22}, [2]int{10, 23}, [2]int{11, 24}, [2]int{10, 25}
	b0, b2, b3 := [2]int{21, 22}, [2]int{20, 24}, [2]int{19, 25}
	all := [4]int{3, 1, 3, 3}
	for _, c := range []struct {
		name    string
		now     api.Layout
		room    []int
		rooms   [4]int
		charged [][2]int
	}{
		{"a layout that holds", api.Layout{{1, 0}, {0, 2, 3}}, nil, all, [][2]int{a2, a3}},
		{"in another order", api.Layout{{0, 1}, {3, 0, 2}}, nil, all, [][2]int{a2, a3}},
		{"with little room", api.Layout{{1, 0}, {0, 2, 3}}, []int{0, 9, -1, 2}, [4]int{0, 1, 0, 2}, [][2]int{a2, a3}},
		{"with rooms that do not count", api.Layout{{1, 0}, {0, 2, 3}}, []int{0, 0, 0}, all, [][2]int{a2, a3}},
		{"no fragment has a drive", api.Layout{{-1, -1}, {-1, -1, -1}}, nil, all, [][2]int{a0, a1, a2, a3, b0, b2, b3}},
		{"some fragments have no drive", api.Layout{{-1, 3}, {-1, 2, -1}}, nil, all, [][2]int{a0, a1, a2, b0, b3}},
		{"a drive twice", api.Layout{{1, 1}, {0, 3, 0}}, nil, all, [][2]int{a0, a2, a3, b2}},
		{"a drive three times", api.Layout{{2, 2}, {2, 2, 2}}, nil, all, [][2]int{a0, a1, a3, b0, b3}},
		{"a drive that the policy does not allow", api.Layout{{2, 0}, {1, 2, 3}}, nil, all, [][2]int{a1, a3, b0}},
		{"nothing but such a drive", api.Layout{{0, 3}, {1, 1, 1}}, nil, all, [][2]int{a1, a2, b0, b2, b3}},
		{"too many in a domain", api.Layout{{0, 2}, {3, 2, -1}}, nil, all, [][2]int{a1, a3, b0}},
		{"too many on a drive", api.Layout{{0, 3}, {3, 2, 0}}, []int{1, 1, 1, 1}, [4]int{1, 1, 1, 1}, [][2]int{a1, a2}},
		{"no layout holds", api.Layout{{0, 3}, {3, 2, 0}}, make([]int, 4), [4]int{}, [][2]int{a1, a2}},
	} {
		checkNetwork(t, c.name, testfleet.Sample(), c.now, c.room, networkOfSample(c.rooms, c.charged...))
	}
}

// P15.2: fleets that lack something.
func TestNetworkOfLittle(t *testing.T) {
	chain, one := []int{0, 1, 2, 3}, []api.Policy{testfleet.Policy(1, 1, [4]int{}, 0)}
	drive := []api.Drive{{Machine: 4}}
	for _, c := range []struct {
		name    string
		f       api.Fleet
		now     api.Layout
		charged [][2]int
	}{
		{"nothing", testfleet.Build(nil, nil, nil, nil), nil, nil},
		{"a drive", testfleet.Build(chain, []int{5}, drive, one), nil, nil},
		{"volumes without domains", testfleet.Build(nil, []int{5}, nil, one, 0, 0), api.Layout{{-1, -1}, {-1, -1}}, nil},
		{"a volume without drives", testfleet.Build(chain, []int{5}, nil, one, 0), api.Layout{{-1, -1}}, nil},
		{"a drive that is needed", testfleet.Build(chain, []int{5}, drive, one, 0), api.Layout{{-1, -1}}, [][2]int{{6, 7}}},
		{"a drive that is there", testfleet.Build(chain, []int{5}, drive, one, 0), api.Layout{{-1, 0}}, nil},
		{"a drive of another model", testfleet.Build(chain, []int{5, 6}, []api.Drive{{Model: 1, Machine: 4}}, one, 0), api.Layout{{-1, 0}}, nil},
	} {
		want, _ := feasible.Network(c.f, nil)
		for i, a := range want.Arcs {
			if slices.Contains(c.charged, [2]int{a.From, a.To}) {
				want.Arcs[i].Cost = 1
			}
		}
		checkNetwork(t, c.name, c.f, c.now, nil, want)
	}
}

// P15.2: random fleets with domains and drives in any order, up to the greatest numbers, with layouts of all kinds.
func TestRandomNetworks(t *testing.T) {
	r := rand.New(rand.NewSource(3))
	costs := map[int]int{}
	for range 400 {
		f := testfleet.Random(r.Intn, testfleet.Limits{Domains: 5 + r.Intn(36), Drives: r.Intn(25), Volumes: r.Intn(13), Fragments: 1 + r.Intn(8)})
		now, room := testfleet.RandomLayout(r.Intn, f), testfleet.RandomRoom(r.Intn, f)
		want := network(f, now, room)
		checkNetwork(t, fmt.Sprint(f), f, now, room, want)
		for _, a := range want.Arcs {
			if endOf(f, a.To).kind == 'd' {
				costs[a.Cost]++
			} else if a.Cost != 0 {
				t.Errorf("an arc that leads to no drive costs %d", a.Cost)
			}
		}
	}
	if costs[0] < 1000 || costs[1] < 1000 {
		t.Errorf("how many arcs cost how much: %v", costs)
	}
}

// P15.2: but for its Costs the network is that of package feasible, whatever the layout is.
func TestSameButForCosts(t *testing.T) {
	r := rand.New(rand.NewSource(4))
	for range 300 {
		f := smallFleet(r)
		room := testfleet.RandomRoom(r.Intn, f)
		want, _ := feasible.Network(f, room)
		got, err := transition.Network(f, testfleet.RandomLayout(r.Intn, f), room)
		for i := range got.Arcs {
			got.Arcs[i].Cost = 0
		}
		if err != api.OK || fmt.Sprint(got) != fmt.Sprint(want) {
			t.Errorf("%v, without its Costs %v, want %v", f, got, want)
		}
	}
}

// P15.2: the greatest fleet has a network within the limits of package mincost.
func TestGreatestNetwork(t *testing.T) {
	f := testfleet.Greatest()
	now := testfleet.Empty(f)
	n, err := transition.Network(f, now, nil)
	if err != api.OK || n.Nodes != 506 || len(n.Arcs) != 792 || !mincost.Valid(n) {
		t.Errorf("%d nodes, %d arcs and the error %d", n.Nodes, len(n.Arcs), err)
	}
	checkNetwork(t, "the greatest fleet", f, now, nil, network(f, now, nil))
}

// P15.2: what a layout that holds costs in the network is how many drives it has for volumes which have not got them.
func TestCostsOfLayouts(t *testing.T) {
	r := rand.New(rand.NewSource(5))
	costs := 0
	for range 100 {
		f, l := largeFleet(r)
		now := testfleet.RandomLayout(r.Intn, f)
		n, err := transition.Network(f, now, topology.Loads(f, l))
		cost, isFlow := mincost.Cost(n, flowOf(f, l, n))
		want := 0
		for v, row := range l {
			want += len(slices.DeleteFunc(slices.Clone(row), func(drive int) bool { return slices.Contains(now[v], drive) }))
		}
		if err != api.OK || !isFlow || cost != want {
			t.Errorf("from %v to %v: the cost %d, %t and the error %d, want %d", now, l, cost, isFlow, err, want)
		}
		costs += cost
	}
	if costs < 1000 {
		t.Errorf("the sum of all costs is %d", costs)
	}
}
