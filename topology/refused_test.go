package topology_test

import (
	"math"
	"slices"
	"testing"

	"drydock/api"
	"drydock/testfleet"
	"drydock/topology"
)

// checkRefused checks that every function returns what it should for a fleet that is not valid.
func checkRefused(t *testing.T, name string, f api.Fleet) {
	t.Helper()
	for _, n := range []int{math.MinInt, -1, 0, 1, 2, 3, 4, 5, 6, 11, math.MaxInt} {
		for level := -1; level <= 5; level++ {
			if got := topology.At(f, n, level); got != -1 {
				t.Errorf("%s: drive %d is in domain %d", name, n, got)
			}
		}
		checkNumbers(t, name+": Drives", topology.Drives(f, n), nil)
		checkNumbers(t, name+": Children", topology.Children(f, n), nil)
	}
	layouts := []api.Layout{sampleLayout(), nil, {nil, nil, nil}, {{99}, {-2}, {3, 3, 3, 3}}, slices.Repeat(api.Layout{{0, -1, 7}}, 13)}
	for _, l := range layouts {
		checkNumbers(t, name+": Loads", topology.Loads(f, l), nil)
		if topology.Shaped(f, l) {
			t.Errorf("%s: %v is shaped", name, l)
		}
		for _, room := range [][]int{nil, {1, 1, 1, 1, 1, 1, 1}, make([]int, 7), {1, 2}} {
			checkNumbers(t, name+": Room", topology.Room(f, room), nil)
			if got := topology.Violations(f, l, room); len(got) != 0 {
				t.Errorf("%s: the violations %v", name, got)
			}
			if topology.Holds(f, l, room) {
				t.Errorf("%s: %v holds", name, l)
			}
		}
	}
}

// Of a fleet that is not valid At returns -1, Shaped and Holds false, and the other functions nothing, also where the fault has nothing to do with the question.
func TestRefusedFleets(t *testing.T) {
	for name, f := range testfleet.Invalid(sample()) {
		checkRefused(t, name, f)
	}
}
