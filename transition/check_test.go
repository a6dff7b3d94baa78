package transition_test

import (
	"fmt"
	"math"
	"math/rand"
	"slices"
	"testing"

	"drydock/api"
	"drydock/testfleet"
	"drydock/topology"
	"drydock/transition"
)

// leastOfSample returns a layout of the sample, rooms with which one of its fragments has to be moved, and this transition.
func leastOfSample(t *testing.T) (f api.Fleet, now api.Layout, room []int, least api.Transition) {
	t.Helper()
	f, now, room = testfleet.Sample(), api.Layout{{1, 0}, {0, 2, 3}}, []int{1, 1, 2, 2}
	least, err := transition.Least(f, now, room)
	if err != api.OK || least.Moved != 1 || len(least.Potentials) != 26 {
		t.Fatalf("%v and the error %d", least, err)
	}
	return f, now, room, least
}

// cloneTransition returns a copy of a transition.
func cloneTransition(t api.Transition) api.Transition {
	return api.Transition{Final: testfleet.CloneLayout(t.Final), Moved: t.Moved, Potentials: slices.Clone(t.Potentials)}
}

// P15.4: each part of a transition wrong by itself.
func TestWrongParts(t *testing.T) {
	f, now, room, least := leastOfSample(t)
	checkAnswer(t, "as it is", f, now, room, least, true)
	if fmt.Sprint(least.Final) != "[[1 2] [0 2 3]]" {
		t.Fatalf("the transition %v", least)
	}
	for name, change := range map[string]func(x *api.Transition){
		"one more":                      func(x *api.Transition) { x.Moved++ },
		"one less":                      func(x *api.Transition) { x.Moved-- },
		"no such number":                func(x *api.Transition) { x.Moved = -1 },
		"the greatest number":           func(x *api.Transition) { x.Moved = math.MaxInt },
		"the least number":              func(x *api.Transition) { x.Moved = math.MinInt },
		"as it was":                     func(x *api.Transition) { x.Final, x.Moved = now, 0 },
		"another drive":                 func(x *api.Transition) { x.Final[0][0] = 3 },
		"another drive, and two moved":  func(x *api.Transition) { x.Final[0][0], x.Moved = 3, 2 },
		"another order":                 func(x *api.Transition) { slices.Reverse(x.Final[0]) },
		"another order, and two moved":  func(x *api.Transition) { slices.Reverse(x.Final[0]); x.Moved = 2 },
		"others exchanged":              func(x *api.Transition) { slices.Reverse(x.Final[1]) },
		"others exchanged, three moved": func(x *api.Transition) { slices.Reverse(x.Final[1]); x.Moved = 3 },
		"all exchanged":                 func(x *api.Transition) { x.Final, x.Moved = api.Layout{{2, 1}, {3, 0, 2}}, 5 },
		"a drive twice":                 func(x *api.Transition) { x.Final[0][1] = 1 },
		"a drive without room":          func(x *api.Transition) { x.Final[0][1], x.Moved = 0, 0 },
		"no drive":                      func(x *api.Transition) { x.Final[0][1] = -1 },
		"no such drive":                 func(x *api.Transition) { x.Final[0][1] = 4 },
		"a drive far away":              func(x *api.Transition) { x.Final[0][1] = math.MaxInt },
		"a drive that is not allowed":   func(x *api.Transition) { x.Final[1][0], x.Moved = 1, 2 },
		"two in one room":               func(x *api.Transition) { x.Final[0][1] = 3 },
		"a row more":                    func(x *api.Transition) { x.Final = append(x.Final, nil) },
		"a row less":                    func(x *api.Transition) { x.Final = x.Final[:1] },
		"no rows":                       func(x *api.Transition) { x.Final = nil },
		"no rows, and nothing moved":    func(x *api.Transition) { x.Final, x.Moved = nil, -1 },
		"the rows exchanged":            func(x *api.Transition) { slices.Reverse(x.Final) },
		"an element more":               func(x *api.Transition) { x.Final[0] = append(x.Final[0], 0) },
		"an element less":               func(x *api.Transition) { x.Final[1] = x.Final[1][:2] },
		"a wrong shape, and -1":         func(x *api.Transition) { x.Final[1], x.Moved = x.Final[1][:2], -1 },
		"no potentials":                 func(x *api.Transition) { x.Potentials = nil },
		"a potential more":              func(x *api.Transition) { x.Potentials = append(x.Potentials, 0) },
		"a potential less":              func(x *api.Transition) { x.Potentials = x.Potentials[:25] },
		"all potentials 0":              func(x *api.Transition) { clear(x.Potentials) },
		"all potentials the greatest":   func(x *api.Transition) { x.Potentials = slices.Repeat([]int{math.MaxInt}, 26) },
		"nothing":                       func(x *api.Transition) { *x = api.Transition{} },
	} {
		x := cloneTransition(least)
		change(&x)
		if accepted(f, now, room, x) {
			t.Errorf("%s: the model of the tests is wrong", name)
		}
		checkAnswer(t, name, f, now, room, x, false)
	}
	for name, from := range map[string]api.Layout{
		"from another layout":             {{1, 0}, {3, 2, 0}},
		"from where it would end":         {{1, 2}, {0, 2, 3}},
		"from a layout without drives":    {{-1, -1}, {-1, -1, -1}},
		"from a layout with a drive less": {{1, 0}, {0, 2, -1}},
	} {
		checkAnswer(t, name, f, from, room, least, false)
	}
	for name, other := range map[string][]int{"with the rooms 0": make([]int, 4), "with less room": {1, 1, 1, 2}, "with room for all": nil, "with rooms that do not count": {1, 1, 2}} {
		checkAnswer(t, name, f, now, other, least, false)
	}
	checkAnswer(t, "with room that is not needed", f, now, []int{1, 1, 9, 2}, least, accepted(f, now, []int{1, 1, 9, 2}, least))
}

// P15.4: each potential changed by itself, a little and far, and all of them together up to the bounds of what a potential may be.
func TestPotentials(t *testing.T) {
	f, now, room, least := leastOfSample(t)
	counts := map[bool]int{}
	for node := range least.Potentials {
		for _, by := range []int{-2_000_000_000, -1_000_000, -2, -1, 1, 2, 1_000_000, 2_000_000_000} {
			x := cloneTransition(least)
			x.Potentials[node] += by
			want := accepted(f, now, room, x)
			checkAnswer(t, fmt.Sprint("node ", node), f, now, room, x, want)
			counts[want]++
			if want && (by < -1_000_000 || by > 1_000_000) {
				t.Errorf("node %d: the potential %d is accepted", node, x.Potentials[node])
			}
		}
	}
	if counts[false] < 100 || counts[true] < 3 {
		t.Errorf("accepted and refused: %v", counts)
	}
	const bound = 1_000_000_000
	for _, c := range []struct {
		name string
		by   int
		want bool
	}{
		{"one more", 1, true},
		{"one less", -1, true},
		{"up to the bound", bound - slices.Max(least.Potentials), true},
		{"over the bound", bound - slices.Max(least.Potentials) + 1, false},
		{"down to the bound", -bound - slices.Min(least.Potentials), true},
		{"under the bound", -bound - slices.Min(least.Potentials) - 1, false},
		{"far up", math.MaxInt / 2, false},
		{"far down", math.MinInt / 2, false},
	} {
		x := cloneTransition(least)
		for node := range x.Potentials {
			x.Potentials[node] += c.by
		}
		checkAnswer(t, c.name, f, now, room, x, c.want)
	}
}

// P15.4: transitions that Least returns, with a few changes in all parts.
func TestRandomTransitions(t *testing.T) {
	r := rand.New(rand.NewSource(13))
	counts := map[bool]int{}
	for range 4000 {
		f := possibleFleet(r)
		now, room := testfleet.RandomLayout(r.Intn, f), lessRoom(r, f)
		x, err := transition.Least(f, now, room)
		if err != api.OK {
			continue
		}
		for range r.Intn(3) {
			change(r, f, &x)
		}
		if r.Intn(2) == 0 {
			x.Moved = moved(now, x.Final)
		}
		want := accepted(f, now, room, x)
		checkAnswer(t, fmt.Sprint(f), f, now, room, x, want)
		counts[want]++
	}
	if counts[true] < 500 || counts[false] < 500 {
		t.Errorf("accepted and refused: %v", counts)
	}
}

// change changes a little of a transition.
func change(r *rand.Rand, f api.Fleet, x *api.Transition) {
	row := x.Final[r.Intn(len(x.Final))]
	i, j := r.Intn(len(row)), r.Intn(len(row))
	switch r.Intn(4) {
	case 0:
		x.Potentials[r.Intn(len(x.Potentials))] += r.Intn(3) - 1
	case 1:
		x.Moved += r.Intn(3) - 1
	case 2:
		row[i] = r.Intn(len(f.Drives))
	case 3:
		row[i], row[j] = row[j], row[i]
	}
}

// P15.4: in large fleets a fragment that changes places with another one of its row, so that the drives are the same but more is moved; and each potential changed.
func TestLargeTransitions(t *testing.T) {
	r := rand.New(rand.NewSource(14))
	exchanged := 0
	for range 40 {
		f, l := largeFleet(r)
		now, room := testfleet.RandomLayout(r.Intn, f), topology.Loads(f, l)
		least, err := transition.Least(f, now, room)
		if err != api.OK {
			t.Errorf("%v: the error %d", f, err)
			continue
		}
		for v, row := range least.Final {
			x := cloneTransition(least)
			x.Final[v] = append(row[1:len(row):len(row)], row[0])
			x.Moved = moved(now, x.Final)
			checkAnswer(t, "a row in another order", f, now, room, x, x.Moved == least.Moved)
			if x.Moved > least.Moved {
				exchanged++
			}
		}
		for range 20 {
			x := cloneTransition(least)
			x.Potentials[r.Intn(len(x.Potentials))] += r.Intn(5) - 2
			checkAnswer(t, "another potential", f, now, room, x, accepted(f, now, room, x))
		}
	}
	if exchanged < 100 {
		t.Errorf("%d rows", exchanged)
	}
}
