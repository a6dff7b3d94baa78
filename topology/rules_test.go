package topology_test

import (
	"fmt"
	"math"
	"math/rand"
	"reflect"
	"testing"

	"drydock/api"
	"drydock/testfleet"
	"drydock/topology"
)

// answers returns all results of all functions for some arguments.
func answers(f api.Fleet, l api.Layout, room []int) []any {
	out := []any{topology.Room(f, room), topology.Loads(f, l), topology.Shaped(f, l), topology.Violations(f, l, room), topology.Holds(f, l, room)}
	for i := range f.Domains {
		out = append(out, topology.Drives(f, i), topology.Children(f, i), topology.At(f, i, i%5))
	}
	return out
}

// overwrite changes all memory of the lists among some results, also that behind their elements.
func overwrite(results []any) {
	for _, x := range results {
		switch list := x.(type) {
		case []int:
			list = list[:cap(list)]
			for i := range list {
				list[i] = -77
			}
		case []api.Violation:
			list = list[:cap(list)]
			for i := range list {
				list[i] = api.Violation{Kind: 77, Volume: 77, Where: 77}
			}
		}
	}
}

// R2 and R6: no call changes its arguments, each gives the same result again, and what becomes of a result changes neither the arguments nor other results.
func TestResultsApart(t *testing.T) {
	r := rand.New(rand.NewSource(8))
	for range 150 {
		f := randomFleet(r)
		l, room := randomLayout(r, f), randomRoom(r, f)
		keptF, keptL, keptRoom := fmt.Sprint(f), fmt.Sprint(l), fmt.Sprint(room)
		first, second := answers(f, l, room), answers(f, l, room)
		text := fmt.Sprint(first)
		overwrite(first)
		if got := fmt.Sprint(second); got != text {
			t.Errorf("%s, and the second time %s", text, got)
		}
		if got := fmt.Sprint(answers(f, l, room)); got != text {
			t.Errorf("%s, and afterwards %s", text, got)
		}
		if fmt.Sprint(f) != keptF || fmt.Sprint(l) != keptL || fmt.Sprint(room) != keptRoom {
			t.Error("an argument was changed")
		}
	}
}

// R2: what is written over one element of an argument changes no result that was returned before.
func TestArgumentsNotKept(t *testing.T) {
	f, l, room := sample(), sampleLayout(), []int{1, 1, 1, 1, 1, 1, 1}
	results := answers(f, l, room)
	text := fmt.Sprint(results)
	for i := range room {
		room[i], f.Drives[i], f.Domains[i] = 0, api.Drive{}, api.Domain{}
	}
	for _, row := range l {
		clear(row)
	}
	if got := fmt.Sprint(results); got != text {
		t.Errorf("%s became %s", text, got)
	}
}

// R3: nil and empty lists are the same in arguments.
func TestEmptyLists(t *testing.T) {
	f := sample()
	if !reflect.DeepEqual(answers(f, nil, nil), answers(f, api.Layout{}, []int{})) {
		t.Error("an empty layout is not nil")
	}
	if fmt.Sprint(answers(f, api.Layout{nil, {3}, nil}, nil)) != fmt.Sprint(answers(f, api.Layout{{}, {3}, {}}, []int{})) {
		t.Error("an empty row is not nil")
	}
}

// P11.1 to P11.4: names, the numbers of other layers, the order of the models of a policy and the form of fractions change no result.
func TestOtherFieldsDoNotCount(t *testing.T) {
	r := rand.New(rand.NewSource(9))
	for range 100 {
		f := randomFleet(r)
		l, room := randomLayout(r, f), randomRoom(r, f)
		want := fmt.Sprint(answers(f, l, room))
		if got := fmt.Sprint(answers(testfleet.Disguise(f), l, room)); got != want {
			t.Errorf("%s, and before %s", got, want)
		}
	}
}

// R1 and R8: every call ends, whatever the arguments are.
func TestAnyArguments(t *testing.T) {
	const many = 1 << 20
	f := sample()
	long := make([]int, many)
	for i := range long {
		long[i] = []int{0, 6, -1, -2, 7, math.MaxInt, math.MinInt, 3}[i%8]
	}
	checkNumbers(t, "a long row", topology.Loads(f, api.Layout{long}), []int{many / 8, 0, 0, many / 8, 0, 0, many / 8})
	checkNumbers(t, "many rows", topology.Loads(f, make(api.Layout, many)), make([]int, 7))
	checkNumbers(t, "a long room", topology.Room(f, long), []int{1, 3, 3, 16, 3, 1, 3})
	checkViolations(t, "many rows", f, make(api.Layout, many), long, []api.Violation{{Kind: api.BadShape, Volume: -1, Where: many}})
	full := fmt.Sprintf("shape 0 %d, shape 1 0, shape 2 0, load -1 0, load -1 3, load -1 6", many)
	checkViolations(t, "a long row", f, api.Layout{long, nil, nil}, nil, listed(full))
	if topology.Shaped(f, make(api.Layout, many)) || topology.Shaped(f, api.Layout{long, long, long}) {
		t.Error("a large layout is shaped")
	}
}
