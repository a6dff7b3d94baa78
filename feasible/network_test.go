package feasible_test

import (
	"fmt"
	"math"
	"math/rand"
	"slices"
	"testing"

	"drydock/api"
	"drydock/feasible"
	"drydock/maxflow"
	"drydock/testfleet"
)

// arcs returns the arcs of a list of their ends and Caps.
func arcs(list ...[3]int) []api.Arc {
	var out []api.Arc
	for _, a := range list {
		out = append(out, api.Arc{From: a[0], To: a[1], Cap: a[2]})
	}
	return out
}

// P14.1: the placement network of the sample, node by node and arc by arc: 2 and 3 are the volumes, from 4 on stands volume 0 in the domains, from 13 on volume 1, from 22 on the drives.
func TestNetworkOfSample(t *testing.T) {
	volumes := arcs(
		// Volume 0: two fragments, at most one in a room and two in a rack.
		[3]int{0, 2, 2},
		[3]int{2, 4, 2}, [3]int{2, 5, 2},
		[3]int{5, 6, 1}, [3]int{4, 7, 1},
		[3]int{6, 8, 2}, [3]int{7, 9, 2},
		[3]int{8, 10, 2}, [3]int{9, 11, 2}, [3]int{9, 12, 2},
		[3]int{12, 22, 1}, [3]int{10, 23, 1}, [3]int{11, 24, 1}, [3]int{10, 25, 1},
		// Volume 1: three fragments, at most two in a site and one in a machine, none on drive 1.
		[3]int{0, 3, 3},
		[3]int{3, 13, 2}, [3]int{3, 14, 2},
		[3]int{14, 15, 3}, [3]int{13, 16, 3},
		[3]int{15, 17, 3}, [3]int{16, 18, 3},
		[3]int{17, 19, 1}, [3]int{18, 20, 1}, [3]int{18, 21, 1},
		[3]int{21, 22, 1}, [3]int{20, 24, 1}, [3]int{19, 25, 1})
	for _, c := range []struct {
		name string
		room []int
		caps [4]int
	}{
		{"nil", nil, [4]int{3, 1, 3, 3}},
		{"one for each drive", []int{2, 1, 0, 3}, [4]int{2, 1, 0, 3}},
		{"too little and too much", []int{math.MaxInt, 2, math.MinInt, -1}, [4]int{3, 1, 0, 0}},
		{"too few", []int{0, 0, 0}, [4]int{3, 1, 3, 3}},
		{"too many", []int{0, 0, 0, 0, 0}, [4]int{3, 1, 3, 3}},
		{"all 0", make([]int, 4), [4]int{}},
	} {
		want := api.Network{Nodes: 26, Source: 0, Sink: 1, Arcs: slices.Clone(volumes)}
		for drive, most := range c.caps {
			want.Arcs = append(want.Arcs, api.Arc{From: 22 + drive, To: 1, Cap: most})
		}
		checkNetwork(t, c.name, testfleet.Sample(), c.room, want)
	}
}

// P14.1: fleets that lack something.
func TestNetworkOfLittle(t *testing.T) {
	chain, one := []int{0, 1, 2, 3}, []api.Policy{testfleet.Policy(1, 1, [4]int{}, 0)}
	drive := []api.Drive{{Machine: 4}}
	for _, c := range []struct {
		name  string
		f     api.Fleet
		nodes int
		arcs  []api.Arc
	}{
		{"nothing", testfleet.Build(nil, nil, nil, nil), 2, nil},
		{"domains", testfleet.Build(chain, nil, nil, nil), 2, nil},
		{"a drive", testfleet.Build(chain, []int{5}, drive, one), 3, arcs([3]int{2, 1, 5})},
		{"a volume", testfleet.Build(nil, []int{5}, nil, one, 0), 3, arcs([3]int{0, 2, 2})},
		{"a site and volumes", testfleet.Build([]int{0}, []int{5}, nil, one, 0, 0), 6, arcs([3]int{0, 2, 2}, [3]int{2, 4, 2}, [3]int{0, 3, 2}, [3]int{3, 5, 2})},
		{"a volume and a drive", testfleet.Build(chain, []int{5}, drive, one, 0), 8, arcs(
			[3]int{0, 2, 2}, [3]int{2, 3, 2}, [3]int{3, 4, 2}, [3]int{4, 5, 2}, [3]int{5, 6, 2}, [3]int{6, 7, 1}, [3]int{7, 1, 5})},
		{"a drive of another model", testfleet.Build(chain, []int{5, 6}, []api.Drive{{Model: 1, Machine: 4}}, one, 0), 8, arcs(
			[3]int{0, 2, 2}, [3]int{2, 3, 2}, [3]int{3, 4, 2}, [3]int{4, 5, 2}, [3]int{5, 6, 2}, [3]int{7, 1, 6})},
	} {
		checkNetwork(t, c.name, c.f, nil, api.Network{Nodes: c.nodes, Source: 0, Sink: 1, Arcs: c.arcs})
	}
}

// P14.1: each level has its Spread as Cap, also where it is above n(v), and n(v) where it is 0.
func TestCapsOfSpreads(t *testing.T) {
	f := testfleet.Build([]int{0, 1, 2, 3}, []int{1}, nil, []api.Policy{testfleet.Policy(2, 1, [4]int{}, 0)}, 0)
	for level := 1; level <= 4; level++ {
		for spread := range api.MaxFragments + 1 {
			f.Policies[0].Spread = [api.Levels]int{}
			f.Policies[0].Spread[level] = spread
			want := arcs([3]int{0, 2, 3}, [3]int{2, 3, 3}, [3]int{3, 4, 3}, [3]int{4, 5, 3}, [3]int{5, 6, 3})
			if spread > 0 {
				want[level].Cap = spread
			}
			checkNetwork(t, fmt.Sprintf("level %d and Spread %d", level, spread), f, nil, api.Network{Nodes: 7, Source: 0, Sink: 1, Arcs: want})
		}
	}
}

// P14.1: the drives stand in ascending order, whatever the order of the Models of the policy is.
func TestOrderOfModels(t *testing.T) {
	drives := []api.Drive{{Model: 2, Machine: 4}, {Model: 0, Machine: 4}, {Model: 1, Machine: 4}, {Model: 0, Machine: 4}}
	for models, want := range map[[3]int][]int{{2, 0, 1}: {7, 8, 9, 10}, {1, 2, 0}: {7, 8, 9, 10}, {2, 0}: {7, 8, 10}, {1, 0}: {8, 9, 10}, {0, 2}: {7, 8, 10}, {0, 1}: {8, 9, 10}} {
		allowed := models[:]
		if len(want) < 4 {
			allowed = models[:2]
		}
		f := testfleet.Build([]int{0, 1, 2, 3}, []int{1, 1, 1}, drives, []api.Policy{testfleet.Policy(1, 0, [4]int{}, allowed...)}, 0)
		n, err := feasible.Network(f, nil)
		var got []int
		for _, a := range n.Arcs {
			if a.From == 6 {
				got = append(got, a.To)
			}
		}
		if err != api.OK || !slices.Equal(got, want) {
			t.Errorf("%v: the arcs to the drives %v, want %v", allowed, got, want)
		}
	}
}

// P14.1: random fleets with domains and drives in any order, up to the greatest numbers.
func TestRandomNetworks(t *testing.T) {
	r := rand.New(rand.NewSource(1))
	for range 400 {
		f := randomFleet(r, 5+r.Intn(36), r.Intn(25), r.Intn(13), 1+r.Intn(8))
		room := testfleet.RandomRoom(r.Intn, f)
		checkNetwork(t, fmt.Sprint(f), f, room, network(f, room))
	}
}

// P14.1: the greatest fleet has a network within the limits of package maxflow.
func TestGreatestNetwork(t *testing.T) {
	f := testfleet.Greatest()
	n, err := feasible.Network(f, nil)
	if err != api.OK || n.Nodes != 506 || len(n.Arcs) != 792 || !maxflow.Valid(n) {
		t.Errorf("%d nodes, %d arcs and the error %d", n.Nodes, len(n.Arcs), err)
	}
	checkNetwork(t, "the greatest fleet", f, nil, network(f, nil))
}
