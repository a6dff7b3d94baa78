package topology_test

import (
	"fmt"
	"math/rand"
	"slices"
	"strings"
	"testing"

	"drydock/api"
	"drydock/testfleet"
	"drydock/topology"
)

// sample returns a fleet whose domains and drives do not stand in depth-first order. Its sites are 1, 2 and 14, its rooms 3, 4 and 13, its racks 5, 6 and 8, the others machines. A room, a machine and a site are empty.
func sample() api.Fleet {
	return testfleet.Build(
		[]int{0, 0, 1, 2, 4, 3, 6, 3, 5, 6, 8, 8, 1, 0},
		[]int{3, 1, 16},
		[]api.Drive{{Model: 1, Machine: 10}, {Model: 0, Machine: 7}, {Model: 0, Machine: 9}, {Model: 2, Machine: 11}, {Model: 0, Machine: 10}, {Model: 1, Machine: 9}, {Model: 0, Machine: 11}},
		[]api.Policy{testfleet.Policy(2, 1, [4]int{0, 2, 0, 1}, 1, 0), testfleet.Policy(1, 0, [4]int{}, 2, 0), testfleet.Policy(2, 2, [4]int{3, 0, 2, 0}, 2, 1, 0)},
		0, 1, 2)
}

// sampleLayout returns a layout of the sample that violates nothing.
func sampleLayout() api.Layout {
	return api.Layout{{1, 0, 2}, {3}, {4, 6, 5, 3}}
}

// randomFleet returns a valid fleet whose domains and drives stand in any order.
func randomFleet(r *rand.Rand) api.Fleet {
	levels, parents, machines := []int{0}, []int{}, []int{}
	for range r.Intn(40) {
		parent := r.Intn(len(levels))
		if levels[parent] == 4 {
			parent = parents[parent-1]
		}
		if levels[parent] == 3 {
			machines = append(machines, len(levels))
		}
		levels, parents = append(levels, levels[parent]+1), append(parents, parent)
	}
	extents := make([]int, 1+r.Intn(4))
	for i := range extents {
		extents[i] = 1 + r.Intn(3)*r.Intn(6)
	}
	var drives []api.Drive
	for range r.Intn(25) {
		if len(machines) > 0 {
			drives = append(drives, api.Drive{Model: r.Intn(len(extents)), Machine: machines[r.Intn(len(machines))]})
		}
	}
	var policies []api.Policy
	for range 1 + r.Intn(4) {
		k := 1 + r.Intn(6)
		spread := [4]int{r.Intn(9), r.Intn(4), r.Intn(4), r.Intn(3)}
		policies = append(policies, testfleet.Policy(k, r.Intn(min(4, 8-k)+1), spread, r.Perm(len(extents))[:1+r.Intn(len(extents))]...))
	}
	volumes := make([]int, r.Intn(13))
	for i := range volumes {
		volumes[i] = r.Intn(len(policies))
	}
	return testfleet.Build(parents, extents, drives, policies, volumes...)
}

// randomLayout returns a layout of a fleet, most often a shaped one.
func randomLayout(r *rand.Rand, f api.Fleet) api.Layout {
	var l api.Layout
	for _, v := range f.Volumes {
		row := make([]int, f.Policies[v.Policy].K+f.Policies[v.Policy].M)
		drives := r.Perm(len(f.Drives))
		for i := range row {
			row[i] = -1
			if len(drives) > 0 && r.Intn(12) > 0 {
				row[i] = drives[i%len(drives)]
			}
			if r.Intn(20) == 0 {
				row[i] = r.Intn(len(f.Drives)+1) - 1
			}
		}
		if r.Intn(40) == 0 {
			row[0] = []int{-2, len(f.Drives), -1 << 62, 1 << 62}[r.Intn(4)]
		}
		if r.Intn(40) == 0 {
			row = append(row, row...)[:r.Intn(2*len(row))]
		}
		l = append(l, row)
	}
	if r.Intn(40) == 0 {
		l = append(l, l...)[:r.Intn(2*len(l)+1)]
	}
	return l
}

// randomRoom returns rooms for a fleet, now and then not one for each drive.
func randomRoom(r *rand.Rand, f api.Fleet) []int {
	room := make([]int, len(f.Drives))
	for i := range room {
		room[i] = r.Intn(20) - 2
	}
	if r.Intn(10) == 0 {
		room = append(room, 3, 4)[:r.Intn(len(room)+3)]
	}
	return room
}

// checkNumbers checks that a list has these numbers. nil and empty lists are alike.
func checkNumbers(t *testing.T, name string, got, want []int) {
	t.Helper()
	if !slices.Equal(got, want) {
		t.Errorf("%s: %v, want %v", name, got, want)
	}
}

// listed returns the violations of a text: the kind, the volume and the place of each, with a comma between them.
func listed(text string) []api.Violation {
	kinds := map[string]int{"shape": api.BadShape, "home": api.BadHome, "twice": api.BadTwice, "model": api.BadModel, "spread": api.BadSpread, "load": api.BadLoad}
	var out []api.Violation
	for _, item := range strings.Split(text, ", ") {
		var word string
		var v api.Violation
		if n, _ := fmt.Sscan(item, &word, &v.Volume, &v.Where); n == 3 {
			v.Kind = kinds[word]
			out = append(out, v)
		}
	}
	return out
}

// checkViolations checks that a layout of a fleet has just these violations, and that Holds says the same.
func checkViolations(t *testing.T, name string, f api.Fleet, l api.Layout, room []int, want []api.Violation) {
	t.Helper()
	if got := topology.Violations(f, l, room); !slices.Equal(got, want) {
		t.Errorf("%s: Violations of %v with the rooms %v: %v, want %v", name, l, room, got, want)
	}
	if got := topology.Holds(f, l, room); got != (len(want) == 0) {
		t.Errorf("%s: Holds of %v with the rooms %v: %t", name, l, room, got)
	}
}
