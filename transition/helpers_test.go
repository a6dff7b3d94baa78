package transition_test

import (
	"math/rand"
	"slices"
	"testing"

	"drydock/api"
	"drydock/feasible"
	"drydock/testfleet"
	"drydock/topology"
	"drydock/transition"
)

// smallFleet returns a fleet so small that all its layouts can be tried.
func smallFleet(r *rand.Rand) api.Fleet {
	return testfleet.Random(r.Intn, testfleet.Limits{Domains: 14, Drives: 6, Volumes: 3, Fragments: 4})
}

// possibleFleet returns a fleet as small that has volumes, and a layout that holds while all extents may be used.
func possibleFleet(r *rand.Rand) api.Fleet {
	for {
		f := smallFleet(r)
		if _, err := feasible.Place(f, nil); err == api.OK && len(f.Volumes) > 0 {
			return f
		}
	}
}

// tinyFleet returns such a fleet of which every layout of the right shape can be tried by itself.
func tinyFleet(r *rand.Rand) api.Fleet {
	for {
		f := possibleFleet(r)
		tries := 1
		for range slices.Concat(testfleet.Empty(f)...) {
			tries *= len(f.Drives) + 1
		}
		if tries < 5000 {
			return f
		}
	}
}

// lessRoom returns the extents of all drives, less one here and there, and none now and then.
func lessRoom(r *rand.Rand, f api.Fleet) []int {
	room := topology.Room(f, nil)
	for i := range room {
		switch r.Intn(8) {
		case 0:
			room[i] = 0
		case 1, 2, 3:
			room[i]--
		}
	}
	return room
}

// largeFleet returns a fleet of any size, with one of its layouts hidden.
func largeFleet(r *rand.Rand) (api.Fleet, api.Layout) {
	for {
		f := testfleet.Random(r.Intn, testfleet.Limits{Domains: api.MaxDomains, Drives: api.MaxDrives, Volumes: api.MaxVolumes, Fragments: api.MaxFragments})
		if l := testfleet.Hide(r.Intn, &f); l != nil {
			return f, l
		}
	}
}

// isNone reports whether a transition is the zero value.
func isNone(t api.Transition) bool {
	return len(t.Final) == 0 && t.Moved == 0 && len(t.Potentials) == 0
}

// checkNetwork checks that the network of a transition is just this one.
func checkNetwork(t *testing.T, name string, f api.Fleet, now api.Layout, room []int, want api.Network) {
	t.Helper()
	got, err := transition.Network(f, now, room)
	if err != api.OK || got.Nodes != want.Nodes || got.Source != want.Source || got.Sink != want.Sink || !slices.Equal(got.Arcs, want.Arcs) {
		t.Errorf("%s: Network of %v: %v and the error %d, want %v", name, now, got, err, want)
	}
}

// checkLeast checks what Least says: a transition that moves so many fragments, or ErrInfeasible for -1.
func checkLeast(t *testing.T, name string, f api.Fleet, now api.Layout, room []int, want int) {
	t.Helper()
	got, err := transition.Least(f, now, room)
	if want < 0 {
		if err != api.ErrInfeasible || !isNone(got) {
			t.Errorf("%s: Least of %v with the rooms %v: %v and the error %d", name, now, room, got, err)
		}
		return
	}
	if err != api.OK || got.Moved != want {
		t.Errorf("%s: Least of %v with the rooms %v: %v and the error %d, want %d", name, now, room, got, err, want)
		return
	}
	checkTransition(t, name, f, now, room, got)
}

// checkTransition checks that a transition is accepted, and what it says.
func checkTransition(t *testing.T, name string, f api.Fleet, now api.Layout, room []int, got api.Transition) {
	t.Helper()
	if !topology.Holds(f, got.Final, room) || moved(now, got.Final) != got.Moved || !accepted(f, now, room, got) {
		t.Errorf("%s: from %v with the rooms %v: %v is no transition", name, now, room, got)
	}
	checkAnswer(t, name, f, now, room, got, true)
	for v, row := range got.Final {
		for i, drive := range row {
			if first := slices.Index(now[v], drive); first >= 0 && now[v][i] != drive {
				t.Errorf("%s: from %v to %v: the fragment %d of volume %d keeps its drive, but not its place", name, now, got.Final, first, v)
			}
		}
	}
}

// checkAnswer checks what Check says of a transition.
func checkAnswer(t *testing.T, name string, f api.Fleet, now api.Layout, room []int, tr api.Transition, want bool) {
	t.Helper()
	if got := transition.Check(f, now, room, tr); got != want {
		t.Errorf("%s: Check of %v from %v with the rooms %v: %t", name, tr, now, room, got)
	}
}

// checkErrors checks that Least returns ErrInfeasible exactly where Place does.
func checkErrors(t *testing.T, name string, f api.Fleet, now api.Layout, room []int) bool {
	t.Helper()
	_, placed := feasible.Place(f, room)
	_, err := transition.Least(f, now, room)
	if err != placed {
		t.Errorf("%s: Least of %v with the rooms %v: the error %d, and Place: %d", name, now, room, err, placed)
	}
	return err == api.OK
}
