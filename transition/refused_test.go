package transition_test

import (
	"math"
	"testing"

	"drydock/api"
	"drydock/testfleet"
	"drydock/transition"
)

// checkRefused checks that every function refuses a fleet or a layout.
func checkRefused(t *testing.T, name string, f api.Fleet, now api.Layout, transitions ...api.Transition) {
	t.Helper()
	for _, room := range [][]int{nil, {0, 0, 0, 0}, {1, 1, 2, 2}, {1}} {
		if n, err := transition.Network(f, now, room); err != api.ErrArg || n.Nodes != 0 || n.Source != 0 || n.Sink != 0 || len(n.Arcs) > 0 {
			t.Errorf("%s: Network of %v: %v and the error %d", name, now, n, err)
		}
		if got, err := transition.Least(f, now, room); err != api.ErrArg || !isNone(got) {
			t.Errorf("%s: Least of %v: %v and the error %d", name, now, got, err)
		}
		for _, x := range transitions {
			checkAnswer(t, name, f, now, room, x, false)
			x.Moved = moved(now, x.Final)
			checkAnswer(t, name, f, now, room, x, false)
		}
	}
}

// P15.2 to P15.4: fleets that are not valid, also where the fault has nothing to do with the placement, with layouts that would do for a valid one and with others.
func TestRefusedFleets(t *testing.T) {
	_, now, _, least := leastOfSample(t)
	stay := api.Transition{Final: now, Potentials: make([]int, 26)}
	checkAnswer(t, "a valid fleet", testfleet.Sample(), now, nil, stay, true)
	for name, f := range testfleet.Invalid(testfleet.Sample()) {
		for _, l := range []api.Layout{now, {{-1, -1}, {-1, -1, -1}}, {{0}}, nil} {
			checkRefused(t, name, f, l, least, stay, api.Transition{}, api.Transition{Potentials: make([]int, 6)})
		}
	}
}

// P15.2 to P15.4: layouts that are not Shaped, each of them with a single fault.
func TestRefusedLayouts(t *testing.T) {
	f, _, _, least := leastOfSample(t)
	stay := api.Transition{Final: api.Layout{{1, 0}, {0, 2, 3}}, Potentials: make([]int, 26)}
	for name, now := range map[string]api.Layout{
		"nothing":                       nil,
		"a row less":                    {{1, 0}},
		"the other row":                 {{0, 2, 3}},
		"a row more":                    {{1, 0}, {0, 2, 3}, {1, 0}},
		"an empty row more":             {{1, 0}, {0, 2, 3}, nil},
		"empty rows":                    {nil, nil},
		"an empty first row":            {nil, {0, 2, 3}},
		"an empty last row":             {{1, 0}, {}},
		"the rows exchanged":            {{0, 2, 3}, {1, 0}},
		"an element more":               {{1, 0, 2}, {0, 2, 3}},
		"no drive more":                 {{1, 0}, {0, 2, 3, -1}},
		"an element less":               {{1, 0}, {0, 2}},
		"one more and one less":         {{1, 0, 2}, {0, 2}},
		"one less and one more":         {{1}, {0, 2, 3, 1}},
		"below -1":                      {{-2, 0}, {0, 2, 3}},
		"below -1 at the end":           {{1, 0}, {0, 2, -2}},
		"no such drive":                 {{1, 4}, {0, 2, 3}},
		"no such drive in the last row": {{1, 0}, {4, 2, 3}},
		"the greatest number":           {{1, 0}, {0, math.MaxInt, 3}},
		"the least number":              {{1, math.MinInt}, {0, 2, 3}},
		"a drive by its low digits":     {{1 + 1<<32, 0}, {0, 2, 3}},
		"many rows":                     make(api.Layout, 1<<16),
		"a long row":                    {make([]int, 1<<16), {0, 2, 3}},
	} {
		checkRefused(t, name, f, now, least, stay, api.Transition{Final: now, Potentials: make([]int, 26)})
	}
	empty := testfleet.Build(nil, nil, nil, nil)
	checkRefused(t, "a row for no volume", empty, api.Layout{nil}, api.Transition{Potentials: make([]int, 2)}, api.Transition{})
	checkAnswer(t, "no rows for no volumes", empty, nil, nil, api.Transition{Potentials: make([]int, 2)}, true)
}

// P15.2 to P15.4: more than the limits allow, of each kind of things by itself.
func TestTooLarge(t *testing.T) {
	for name, f := range testfleet.TooLarge() {
		now := testfleet.Empty(f)
		least, err := transition.Least(testfleet.Greatest(), now[:api.MaxVolumes], nil)
		if err != api.OK {
			t.Errorf("within the limits: the error %d", err)
		}
		checkRefused(t, name, f, now, least)
	}
}

// P15.3: of two errors the first one is returned.
func TestOrderOfErrors(t *testing.T) {
	f, good, bad := testfleet.Sample(), api.Layout{{1, 0}, {0, 2, 3}}, api.Layout{{1, 0}, {0, 2, 4}}
	invalid, none := testfleet.Sample(), make([]int, 4)
	invalid.Volumes[1].Policy = 9
	for _, c := range []struct {
		name string
		f    api.Fleet
		now  api.Layout
		want api.Errno
	}{
		{"no room", f, good, api.ErrInfeasible},
		{"no room and a wrong layout", f, bad, api.ErrArg},
		{"no room and a wrong fleet", invalid, good, api.ErrArg},
		{"no room and all wrong", invalid, bad, api.ErrArg},
	} {
		if got, err := transition.Least(c.f, c.now, none); err != c.want || !isNone(got) {
			t.Errorf("%s: %v and the error %d, want %d", c.name, got, err, c.want)
		}
	}
}
