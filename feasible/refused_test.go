package feasible_test

import (
	"slices"
	"testing"

	"drydock/api"
	"drydock/feasible"
	"drydock/testfleet"
)

// noCuts returns cuts of the shape of the sample: with all nodes on one side, and with the volumes alone.
func noCuts() []api.Cut {
	var out []api.Cut
	for _, side := range [][3]bool{{}, {true, false, false}, {true, true, false}, {true, true, true}} {
		row := slices.Repeat([]bool{side[1]}, 9)
		out = append(out, api.Cut{Volumes: slices.Repeat([]bool{side[0]}, 2), Domains: [][]bool{row, row}, Drives: slices.Repeat([]bool{side[2]}, 4)})
	}
	return append(out, api.Cut{})
}

// checkInvalid checks that every function refuses a fleet that is not valid.
func checkInvalid(t *testing.T, name string, f api.Fleet) {
	t.Helper()
	for _, room := range [][]int{nil, {0, 0, 0, 0}, {1, 1, 1, 1}, {1}} {
		if n, err := feasible.Network(f, room); err != api.ErrArg || n.Nodes != 0 || n.Source != 0 || n.Sink != 0 || len(n.Arcs) > 0 {
			t.Errorf("%s: Network: %v and the error %d", name, n, err)
		}
		if l, err := feasible.Place(f, room); err != api.ErrArg || len(l) > 0 {
			t.Errorf("%s: Place: %v and the error %d", name, l, err)
		}
		checkNoCut(t, name, f, room)
		for _, c := range noCuts() {
			checkCut(t, name, f, room, c, false)
		}
	}
}

// P14.1 to P14.3: fleets that are not valid, also where the fault has nothing to do with the placement.
func TestRefusedFleets(t *testing.T) {
	for name, f := range testfleet.Invalid(testfleet.Sample()) {
		checkInvalid(t, name, f)
	}
}

// P14.1 to P14.3: more than the limits allow, of each kind of things by itself.
func TestTooLarge(t *testing.T) {
	for name, f := range testfleet.TooLarge() {
		checkInvalid(t, name, f)
	}
}
