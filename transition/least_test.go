package transition_test

import (
	"fmt"
	"math/rand"
	"slices"
	"testing"

	"drydock/api"
	"drydock/fleet"
	"drydock/syntax"
	"drydock/testfleet"
	"drydock/topology"
	"drydock/transition"
)

// The example of the chapter: a drive with two fragments gets the room 0, and other drives have enough room.
func TestExample(t *testing.T) {
	source, _, _ := syntax.Parse(`extent 1;
		law l { start 1; rates 0; exit 1; }
		model m { extents 2; port 1; law l; }
		site s uplink 1 { room r uplink 1 {
			rack k uplink 1 { machine a uplink 1 { drive a.1 m; drive a.2 m; } }
			rack l uplink 1 { machine b uplink 1 { drive b.1 m; drive b.2 m; } }
		} }
		policy p { code 1 + 1; quorum 1; most 1 rack; on m; repair 1; target 0 in 1; }
		volume v p;
		volume w p;`)
	f, err, _ := fleet.Compile(source)
	if err != api.OK {
		t.Fatal("no fleet")
	}
	now := api.Layout{{0, 2}, {3, 0}}
	checkLeast(t, "the room of drive 0 is 0", f, now, []int{0, 2, 2, 2}, 2)
	checkLeast(t, "the room of drive 0 is 1", f, now, []int{1, 2, 2, 2}, 1)
	checkLeast(t, "the rooms of drives 0 and 2 are 0", f, now, []int{0, 2, 0, 2}, 3)
	checkLeast(t, "there is room for all", f, now, nil, 0)
	checkLeast(t, "there is not enough room elsewhere", f, now, []int{0, 1, 2, 2}, -1)
	got, _ := transition.Least(f, now, []int{0, 2, 2, 2})
	if want := (api.Layout{{1, 2}, {3, 1}}); fmt.Sprint(got.Final) != fmt.Sprint(want) {
		t.Errorf("%v instead of the only layout with so few moves, %v", got.Final, want)
	}
}

// P15.3: transitions of the sample, of which the least number of moves is known.
func TestSample(t *testing.T) {
	good := api.Layout{{1, 0}, {0, 2, 3}}
	for _, c := range []struct {
		name string
		now  api.Layout
		room []int
		want int
	}{
		{"a layout that holds", good, nil, 0},
		{"in another order", api.Layout{{0, 1}, {3, 0, 2}}, nil, 0},
		{"just enough room", good, []int{2, 1, 1, 1}, 0},
		{"less room on a drive of both volumes", good, []int{1, 1, 2, 1}, 1},
		{"less room where only one volume can go elsewhere", good, []int{2, 0, 1, 2}, 1},
		{"rooms that do not count", good, make([]int, 3), 0},
		{"rooms above and below what there may be", good, []int{99, 1, 3, -1}, -1},
		{"too little room", good, []int{1, 1, 1, 1}, -1},
		{"no room", good, make([]int, 4), -1},
		{"no drives", api.Layout{{-1, -1}, {-1, -1, -1}}, nil, 5},
		{"no drives and no room", api.Layout{{-1, -1}, {-1, -1, -1}}, make([]int, 4), -1},
		{"one fragment without a drive", api.Layout{{1, -1}, {0, 2, 3}}, nil, 1},
		{"fragments without a drive in both", api.Layout{{-1, 0}, {-1, 2, -1}}, nil, 3},
		{"a drive twice", api.Layout{{1, 1}, {0, 2, 3}}, nil, 1},
		{"a drive three times", api.Layout{{1, 0}, {2, 2, 2}}, nil, 2},
		{"a drive twice that has to be left", api.Layout{{3, 3}, {0, 2, 3}}, []int{3, 1, 3, 1}, 2},
		{"a drive that the policy does not allow", api.Layout{{1, 0}, {0, 1, 3}}, nil, 1},
		{"two in one room", api.Layout{{1, 3}, {0, 2, 3}}, nil, 1},
		{"two in the other room", api.Layout{{0, 2}, {0, 2, 3}}, nil, 1},
		{"two in one room, and only one can stay", api.Layout{{1, 3}, {0, 2, 3}}, []int{2, 1, 1, 1}, 1},
		{"all at once", api.Layout{{2, 2}, {1, -1, 1}}, []int{2, 1, 1, 1}, 5},
	} {
		checkLeast(t, c.name, testfleet.Sample(), c.now, c.room, c.want)
		if got := fewest(testfleet.Sample(), c.now, c.room); got != c.want {
			t.Errorf("%s: the model of the tests says %d", c.name, got)
		}
	}
}

// P15.3: a fragment that has to go takes the place of another one, and so on: volumes that each may lie on two kinds of drives only.
func TestChain(t *testing.T) {
	drives := []api.Drive{{Model: 0, Machine: 4}, {Model: 1, Machine: 4}, {Model: 2, Machine: 4}, {Model: 3, Machine: 4}}
	policies := []api.Policy{testfleet.Policy(1, 0, [4]int{}, 0, 1), testfleet.Policy(1, 0, [4]int{}, 1, 2), testfleet.Policy(1, 0, [4]int{}, 2, 3)}
	f := testfleet.Build([]int{0, 1, 2, 3}, []int{1, 1, 1, 2}, drives, policies, 0, 1, 2)
	now := api.Layout{{0}, {1}, {2}}
	checkLeast(t, "all stay", f, now, nil, 0)
	checkLeast(t, "drive 0 is left", f, now, []int{0, 1, 1, 1}, 3)
	checkLeast(t, "drive 1 is left", f, now, []int{1, 0, 1, 1}, 2)
	checkLeast(t, "drive 2 is left", f, now, []int{1, 1, 0, 1}, 1)
	checkLeast(t, "drives 1 and 2 are left", f, now, []int{1, 0, 0, 2}, -1)
	checkLeast(t, "no drive is left for the last", f, now, []int{0, 1, 1, 0}, -1)
	f.Policies[1].Models = []int{1, 3}
	checkLeast(t, "the second goes to drive 3", f, now, []int{0, 1, 1, 1}, 2)
}

// P15.3: layouts without volumes or drives.
func TestLittle(t *testing.T) {
	chain, one := []int{0, 1, 2, 3}, []api.Policy{testfleet.Policy(1, 0, [4]int{}, 0)}
	drive := []api.Drive{{Machine: 4}}
	checkLeast(t, "nothing", testfleet.Build(nil, nil, nil, nil), nil, nil, 0)
	checkLeast(t, "nothing but domains", testfleet.Build(chain, nil, nil, nil), api.Layout{}, nil, 0)
	checkLeast(t, "no volumes", testfleet.Build(chain, []int{1}, drive, one), nil, []int{0}, 0)
	checkLeast(t, "no domains", testfleet.Build(nil, []int{1}, nil, one, 0), api.Layout{{-1}}, nil, -1)
	checkLeast(t, "no drives", testfleet.Build(chain, []int{1}, nil, one, 0), api.Layout{{-1}}, nil, -1)
	checkLeast(t, "a volume that has its drive", testfleet.Build(chain, []int{1}, drive, one, 0), api.Layout{{0}}, nil, 0)
	checkLeast(t, "a volume that needs its drive", testfleet.Build(chain, []int{1}, drive, one, 0), api.Layout{{-1}}, nil, 1)
	checkLeast(t, "a volume whose drive has no room", testfleet.Build(chain, []int{1}, drive, one, 0), api.Layout{{0}}, []int{0}, -1)
	checkLeast(t, "two volumes on a drive", testfleet.Build(chain, []int{1}, drive, one, 0, 0), api.Layout{{0}, {0}}, nil, -1)
}

// P15.3: against all layouts of small fleets, from layouts of all kinds.
func TestFewest(t *testing.T) {
	r := rand.New(rand.NewSource(6))
	counts, fewer := map[int]int{}, 0
	for range 6000 {
		f := smallFleet(r)
		room := testfleet.RandomRoom(r.Intn, f)
		if r.Intn(2) == 0 {
			f = possibleFleet(r)
			room = lessRoom(r, f)
		}
		now := testfleet.RandomLayout(r.Intn, f)
		want := fewest(f, now, room)
		checkLeast(t, fmt.Sprint(f), f, now, room, want)
		if checkErrors(t, fmt.Sprint(f), f, now, room) != (want >= 0) {
			t.Errorf("%v: no layout should hold: %t", f, want < 0)
		}
		if len(f.Volumes) > 1 && len(f.Drives) > 3 {
			counts[want]++
			if want > 0 && want < len(slices.Concat(now...)) {
				fewer++
			}
		}
	}
	if counts[-1] < 300 || counts[0] < 50 || counts[1] < 50 || counts[2] < 50 || counts[4] < 30 || fewer < 200 {
		t.Errorf("how often how many are moved: %v, %d times some of them", counts, fewer)
	}
}

// P15.3: layouts of one fleet with all rooms of up to two, from one layout that holds and one that does not.
func TestAllRooms(t *testing.T) {
	drives := []api.Drive{{Machine: 7}, {Machine: 5}, {Machine: 6}, {Model: 1, Machine: 6}, {Model: 1, Machine: 8}}
	policies := []api.Policy{testfleet.Policy(2, 1, [4]int{0, 0, 2, 1}, 0, 1), testfleet.Policy(1, 1, [4]int{0, 0, 1, 0}, 0)}
	f := testfleet.Build([]int{0, 1, 2, 2, 4, 3, 3, 4}, []int{2, 2}, drives, policies, 0, 1)
	counts := map[int]int{}
	for rooms := range 243 {
		room := []int{rooms % 3, rooms / 3 % 3, rooms / 9 % 3, rooms / 27 % 3, rooms / 81}
		for _, now := range []api.Layout{{{0, 1, 2}, {2, 1}}, {{0, 3, 2}, {2, 0}}, {{4, 4, -1}, {1, 3}}} {
			want := fewest(f, now, room)
			checkLeast(t, "all rooms", f, now, room, want)
			counts[want]++
		}
	}
	for want := -1; want <= 4; want++ {
		if counts[want] < 10 {
			t.Errorf("how often how many are moved: %v", counts)
		}
	}
}

// P15.3: large fleets with just enough room for one hidden layout. Some fragments of it were moved away or lost.
func TestHiddenLayouts(t *testing.T) {
	r := rand.New(rand.NewSource(7))
	fewer, all := 0, 0
	for range 150 {
		f, l := largeFleet(r)
		room, now := topology.Loads(f, l), testfleet.CloneLayout(l)
		for _, row := range now {
			for i := range row {
				if r.Intn(3) == 0 {
					row[i] = r.Intn(len(f.Drives)+1) - 1
				}
			}
		}
		got, err := transition.Least(f, now, room)
		changed := moved(now, l)
		if err != api.OK || got.Moved > changed {
			t.Errorf("%v: %v and the error %d, though %d are enough", f, got, err, changed)
			continue
		}
		checkTransition(t, fmt.Sprint(f), f, now, room, got)
		all++
		if got.Moved < changed {
			fewer++
		}
		for drive, most := range room {
			if most > 0 {
				less := slices.Clone(room)
				less[drive]--
				checkLeast(t, "less than enough room", f, now, less, -1)
			}
		}
	}
	if all < 100 || fewer < 20 {
		t.Errorf("%d times as few as were changed, %d times fewer", all, fewer)
	}
}

// P15.3: the greatest fleet, which is full: a fragment that is to go needs another one that goes.
func TestGreatestFleet(t *testing.T) {
	f := testfleet.Greatest()
	checkLeast(t, "an empty layout", f, testfleet.Empty(f), nil, 96)
	first, _ := transition.Least(f, testfleet.Empty(f), nil)
	checkLeast(t, "a full layout", f, first.Final, nil, 0)
	now := testfleet.CloneLayout(first.Final)
	now[0], now[11] = now[11], now[0]
	checkLeast(t, "the same with two volumes exchanged", f, now, nil, 0)
	now[5][7] = now[5][6]
	checkLeast(t, "a drive twice", f, now, nil, 1)
	for drive := range f.Drives {
		room := slices.Repeat([]int{4}, len(f.Drives))
		room[drive] = 3
		checkLeast(t, "less room", f, now, room, -1)
	}
	for i := range f.Models {
		f.Models[i].Extents = 5
	}
	room := slices.Repeat([]int{5}, len(f.Drives))
	room[9] = 0
	checkLeast(t, "a drive is left", f, first.Final, room, 4)
}
