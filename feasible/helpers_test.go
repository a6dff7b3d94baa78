package feasible_test

import (
	"math/rand"
	"slices"
	"testing"

	"drydock/api"
	"drydock/feasible"
	"drydock/testfleet"
	"drydock/topology"
)

// randomFleet returns a valid fleet with at most so many domains, drives, volumes and fragments of a volume, whose domains and drives stand in any order.
func randomFleet(r *rand.Rand, domains, drives, volumes, fragments int) api.Fleet {
	return testfleet.Random(r.Intn, testfleet.Limits{Domains: domains, Drives: drives, Volumes: volumes, Fragments: fragments})
}

// smallFleet returns a fleet so small that all its layouts can be tried.
func smallFleet(r *rand.Rand) api.Fleet {
	return randomFleet(r, 14, 6, 3, 4)
}

// checkNetwork checks that a fleet has this placement network.
func checkNetwork(t *testing.T, name string, f api.Fleet, room []int, want api.Network) {
	t.Helper()
	got, err := feasible.Network(f, room)
	if err != api.OK || got.Nodes != want.Nodes || got.Source != want.Source || got.Sink != want.Sink || !slices.Equal(got.Arcs, want.Arcs) {
		t.Errorf("%s: Network: %v and the error %d, want %v", name, got, err, want)
	}
}

// checkPlaced checks that a layout is found which violates nothing, and nothing that speaks against one.
func checkPlaced(t *testing.T, name string, f api.Fleet, room []int) {
	t.Helper()
	l, err := feasible.Place(f, room)
	if err != api.OK || !topology.Holds(f, l, room) {
		t.Errorf("%s: Place: %v and the error %d, with the violations %v", name, l, err, topology.Violations(f, l, room))
	}
	checkNoCut(t, name, f, room)
}

// checkNoCut checks that Why returns nothing.
func checkNoCut(t *testing.T, name string, f api.Fleet, room []int) {
	t.Helper()
	if c, found := feasible.Why(f, room); found || len(c.Volumes)+len(c.Domains)+len(c.Drives) > 0 {
		t.Errorf("%s: Why: %v, %t", name, c, found)
	}
}

// checkNoLayout checks that no layout is found, and a cut that proves that there is none.
func checkNoLayout(t *testing.T, name string, f api.Fleet, room []int) {
	t.Helper()
	if l, err := feasible.Place(f, room); err != api.ErrInfeasible || len(l) > 0 {
		t.Errorf("%s: Place: %v and the error %d", name, l, err)
	}
	c, found := feasible.Why(f, room)
	if !found {
		t.Errorf("%s: Why returns no cut", name)
	} else if !proves(f, room, c) {
		t.Errorf("%s: the cut %v proves nothing", name, c)
	}
	checkCut(t, name, f, room, c, true)
}

// checkEither checks that there is a layout, or a cut.
func checkEither(t *testing.T, name string, f api.Fleet, room []int, placed bool) {
	t.Helper()
	if placed {
		checkPlaced(t, name, f, room)
	} else {
		checkNoLayout(t, name, f, room)
	}
}

// checkCut checks what CheckCut says of a cut.
func checkCut(t *testing.T, name string, f api.Fleet, room []int, c api.Cut, want bool) {
	t.Helper()
	if got := feasible.CheckCut(f, room, c); got != want {
		t.Errorf("%s: CheckCut of %v with the rooms %v: %t", name, c, room, got)
	}
}
