package topology_test

import (
	"fmt"
	"math"
	"math/rand"
	"testing"

	"drydock/api"
	"drydock/testfleet"
	"drydock/topology"
)

// P11.4: the layout of the sample, with each kind of violation by itself and with others.
func TestViolations(t *testing.T) {
	for _, c := range []struct {
		name string
		l    api.Layout
		room []int
		want string
	}{
		{"the sample", sampleLayout(), nil, ""},
		{"no rows", nil, nil, "shape -1 0"},
		{"two rows", api.Layout{{1, 0, 2}, {3}}, nil, "shape -1 2"},
		{"four rows", append(sampleLayout(), nil), nil, "shape -1 4"},
		{"two rows with other faults", api.Layout{{-1, 3}, {5, 5, 5}}, []int{0, 0, 0, 0, 0, 0, 0}, "shape -1 2"},
		{"an empty row", api.Layout{nil, {3}, {4, 6, 5, 3}}, nil, "shape 0 0"},
		{"an element less", api.Layout{{1, 0}, {3}, {4, 6, 5, 3}}, nil, "shape 0 2"},
		{"an element more", api.Layout{{1, 0, 2}, {3, -1}, {4, 6, 5, 3}}, nil, "shape 1 2"},
		{"elements more, among them no drives", api.Layout{{1, 0, 2}, {3}, {4, 99, 5, 3, 3, -1}}, nil, "shape 2 6"},
		{"the next after the last drive", api.Layout{{1, 7, 2}, {3}, {4, 6, 5, 3}}, nil, "shape 0 1"},
		{"the number below -1", api.Layout{{1, 0, 2}, {3}, {4, 6, 5, -2}}, nil, "shape 2 3"},
		{"the first of several", api.Layout{{-1, -2, 7}, {3}, {4, 6, 5, 3}}, nil, "shape 0 1"},
		{"large numbers", api.Layout{{1, 0, 2}, {math.MaxInt}, {4, 6, math.MinInt, 3}}, nil, "shape 1 0, shape 2 2"},
		{"one without a drive", api.Layout{{1, -1, 2}, {3}, {4, 6, 5, 3}}, nil, "home 0 1"},
		{"nothing placed", api.Layout{{-1, -1, -1}, {-1}, {-1, -1, -1, -1}}, nil, "home 0 0, home 0 1, home 0 2, home 1 0, home 2 0, home 2 1, home 2 2, home 2 3"},
		{"two on one drive", api.Layout{{1, 0, 2}, {3}, {4, 6, 5, 4}}, nil, "twice 2 4"},
		{"two pairs on two drives", api.Layout{{1, 0, 2}, {3}, {6, 2, 2, 6}}, nil, "twice 2 2, twice 2 6"},
		{"a model that is not allowed", api.Layout{{1, 3, 2}, {3}, {4, 6, 5, 2}}, nil, "model 0 1"},
		{"two of them", api.Layout{{3, 2, 1}, {5}, {4, 6, 2, 0}}, nil, "model 0 0, model 1 0"},
		{"too many in a machine", api.Layout{{0, 4, 2}, {3}, {1, 6, 5, 3}}, nil, "spread 0 10"},
		{"too many in a room", api.Layout{{0, 1, 6}, {3}, {4, 2, 5, 3}}, nil, "spread 0 3"},
		{"too many in a site", api.Layout{{1, 0, 2}, {3}, {4, 1, 6, 3}}, nil, "spread 2 1"},
		{"too many in a rack", api.Layout{{1, 2, 6}, {3}, {4, 1, 0, 5}}, nil, "spread 2 6"},
		{"too many for a room", sampleLayout(), []int{1, 1, 1, 1, 1, 1, 1}, "load -1 3"},
		{"too many for a model", api.Layout{{1, 0, 5}, {3}, {4, 6, 5, 3}}, nil, "load -1 5"},
		{"no rooms", sampleLayout(), []int{0, 0, 0, 0, 0, 0, 0}, "load -1 0, load -1 1, load -1 2, load -1 3, load -1 4, load -1 5, load -1 6"},
		{"a row of another shape counts for the rooms", api.Layout{{5, 5}, {3}, {4, 6, 2, 9}}, nil, "shape 0 2, shape 2 3, load -1 5"},
		{"several kinds in one volume", api.Layout{{1, 0, 2}, {4}, {3, -1, 3, 6}}, []int{1, 1, 1, 1, 1, 1, 1}, "home 2 1, twice 2 3, spread 2 8, load -1 3"},
		{"several kinds in two volumes", api.Layout{{3, -1, 3}, {-2}, {1, 6, 5, 4}}, []int{0, 0, 2, 1, 2, 2, 2}, "home 0 1, twice 0 3, model 0 0, model 0 2, spread 0 11, shape 1 0, load -1 1, load -1 3"},
		{"all in one machine", api.Layout{{3, 3, 3}, {2}, {6, 6, 3, 6}}, nil, "twice 0 3, model 0 0, model 0 1, model 0 2, spread 0 3, spread 0 11, twice 2 6, spread 2 1, spread 2 8"},
	} {
		checkViolations(t, c.name, sample(), c.l, c.room, listed(c.want))
	}
}

// P11.4: the example of the chapter.
func TestExample(t *testing.T) {
	f := testfleet.Build([]int{0, 1, 2, 3, 3, 3}, []int{1}, []api.Drive{{Machine: 4}, {Machine: 5}, {Machine: 6}}, []api.Policy{testfleet.Policy(2, 1, [4]int{0, 0, 2, 0}, 0)}, 0)
	checkViolations(t, "2 + 1 in one rack", f, api.Layout{{0, 1, 2}}, nil, []api.Violation{{Kind: api.BadSpread, Volume: 0, Where: 3}})
}

// P11.4: every bound of every level, with every number of fragments in two domains of each level.
func TestSpreads(t *testing.T) {
	// The domains of the two sites alternate.
	parents := []int{0, 0, 1, 2, 3, 4, 5, 6}
	var drives []api.Drive
	for i := range 16 {
		drives = append(drives, api.Drive{Machine: 7 + i%2})
	}
	for level := 1; level <= 4; level++ {
		for bound := 0; bound <= 8; bound++ {
			spread := [4]int{}
			spread[level-1] = bound
			f := testfleet.Build(parents, []int{1}, drives, []api.Policy{testfleet.Policy(4, 4, spread, 0)}, 0)
			for n := 0; n <= 8; n++ {
				var row []int
				for i := range 8 {
					row = append(row, 2*i)
					if i >= n {
						row[i]++
					}
				}
				var want []api.Violation
				for side, load := range []int{n, 8 - n} {
					if bound > 0 && load > bound {
						want = append(want, api.Violation{Kind: api.BadSpread, Volume: 0, Where: 2*level - 1 + side})
					}
				}
				checkViolations(t, fmt.Sprintf("most %d of level %d", bound, level), f, api.Layout{row}, nil, want)
			}
		}
	}
}

// P11.4: the domains with too many fragments follow each other by their indices, not by their levels, and all kinds of a volume come before those of the next one.
func TestSpreadsInOrder(t *testing.T) {
	drives := []api.Drive{{Machine: 8}, {Machine: 4}, {Machine: 8}, {Machine: 4}}
	f := testfleet.Build([]int{0, 1, 2, 3, 0, 5, 6, 7}, []int{1}, drives, []api.Policy{testfleet.Policy(4, 0, [4]int{1, 1, 1, 1}, 0), testfleet.Policy(2, 2, [4]int{4, 3, 4, 3}, 0)}, 0, 1)
	want := listed("spread 0 1, spread 0 2, spread 0 3, spread 0 4, spread 0 5, spread 0 6, spread 0 7, spread 0 8, twice 1 2, spread 1 6, spread 1 8, load -1 2")
	checkViolations(t, "two sites", f, api.Layout{{3, 2, 1, 0}, {2, 2, 2, 2}}, nil, want)
}

// P11.4: a fragment without a drive is in no domain and on no drive, and one that shares its drive counts in its domains.
func TestSpreadOfRepeatedDrives(t *testing.T) {
	f := testfleet.Build([]int{0, 1, 2, 3}, []int{16}, []api.Drive{{Machine: 4}, {Machine: 4}}, []api.Policy{testfleet.Policy(2, 1, [4]int{0, 0, 0, 2}, 0)}, 0)
	checkViolations(t, "two", f, api.Layout{{-1, 0, 0}}, nil, listed("home 0 0, twice 0 0"))
	checkViolations(t, "three", f, api.Layout{{1, 1, 1}}, nil, listed("twice 0 1, spread 0 4"))
	checkViolations(t, "three on two", f, api.Layout{{1, 0, 1}}, nil, listed("twice 0 1, spread 0 4"))
	checkViolations(t, "none", f, api.Layout{{-1, -1, -1}}, nil, listed("home 0 0, home 0 1, home 0 2"))
}

// P11.4: every model of the drive with every list of models of the policy.
func TestModels(t *testing.T) {
	for mask := 1; mask < 16; mask++ {
		var models []int
		for i := 3; i >= 0; i-- {
			if mask>>i&1 == 1 {
				models = append(models, i)
			}
		}
		drives := []api.Drive{{Model: 0, Machine: 4}, {Model: 1, Machine: 4}, {Model: 2, Machine: 4}, {Model: 3, Machine: 4}}
		f := testfleet.Build([]int{0, 1, 2, 3}, []int{1, 1, 1, 1}, drives, []api.Policy{testfleet.Policy(3, 1, [4]int{}, models...)}, 0)
		var want []api.Violation
		for i := range 4 {
			// Fragment i lies on drive 3 - i, of the model 3 - i.
			if mask>>(3-i)&1 == 0 {
				want = append(want, api.Violation{Kind: api.BadModel, Volume: 0, Where: i})
			}
		}
		checkViolations(t, fmt.Sprint("models ", models), f, api.Layout{{3, 2, 1, 0}}, nil, want)
	}
}

// P11.4: every load with every room around it, below 0 and above the extents.
func TestLoadsAndRooms(t *testing.T) {
	for load := 0; load <= 12; load++ {
		for extents := 1; extents <= 13; extents++ {
			f := testfleet.Build([]int{0, 1, 2, 3}, []int{extents, 16}, []api.Drive{{Model: 1, Machine: 4}, {Model: 0, Machine: 4}}, []api.Policy{testfleet.Policy(1, 0, [4]int{}, 0, 1)}, 0, 0, 0, 0, 0, 0, 0, 0, 0, 0, 0, 0)
			var l api.Layout
			for i := range 12 {
				l = append(l, []int{0})
				if i < load {
					l[i][0] = 1
				}
			}
			bad := []api.Violation{{Kind: api.BadLoad, Volume: -1, Where: 1}}
			for n := -2; n <= 18; n++ {
				want := bad
				if load <= extents && load <= max(n, 0) {
					want = nil
				}
				checkViolations(t, fmt.Sprintf("load %d, extents %d", load, extents), f, l, []int{16, n}, want)
			}
			if load <= extents {
				bad = nil
			}
			checkViolations(t, "all extents", f, l, nil, bad)
			checkViolations(t, "a room for one of two", f, l, []int{0}, bad)
		}
	}
}

// P11.4: all rows of up to three elements for the first of two volumes, with some for the second one and some rooms, compared with the model.
func TestAllRows(t *testing.T) {
	drives := []api.Drive{{Model: 0, Machine: 5}, {Model: 1, Machine: 4}, {Model: 1, Machine: 5}}
	f := testfleet.Build([]int{0, 1, 2, 3, 3}, []int{2, 1}, drives, []api.Policy{testfleet.Policy(1, 1, [4]int{0, 0, 0, 1}, 1), testfleet.Policy(1, 0, [4]int{}, 0, 1)}, 0, 1)
	rows := [][]int{nil}
	for i := 0; len(rows[i]) < 3; i++ {
		for x := -2; x <= 3; x++ {
			rows = append(rows, append(append([]int{}, rows[i]...), x))
		}
	}
	if len(rows) != 1+6+36+216 {
		t.Fatalf("%d rows", len(rows))
	}
	for _, first := range rows {
		for _, second := range rows[:8] {
			for _, room := range [][]int{nil, {1, 1, 1}, {2, 0, 2}, {0, -1}} {
				l := api.Layout{first, second}
				checkViolations(t, "two volumes", f, l, room, violated(f, l, room))
			}
		}
	}
}

// P11.4: random layouts, compared with the model.
func TestRandomViolations(t *testing.T) {
	r := rand.New(rand.NewSource(4))
	kinds, holds := map[int]int{}, 0
	for range 2500 {
		f := randomFleet(r)
		l, room := randomLayout(r, f), randomRoom(r, f)
		if r.Intn(3) == 0 {
			room = nil
		}
		checkViolations(t, "random", f, l, room, violated(f, l, room))
		for _, v := range topology.Violations(f, l, room) {
			kinds[v.Kind]++
		}
		if topology.Holds(f, l, room) {
			holds++
		}
	}
	for kind := 1; kind <= 6; kind++ {
		if kinds[kind] < 100 {
			t.Errorf("%d violations of kind %d", kinds[kind], kind)
		}
	}
	if holds < 100 {
		t.Errorf("%d layouts hold", holds)
	}
}
