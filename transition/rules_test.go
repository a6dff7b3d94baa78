package transition_test

import (
	"fmt"
	"math"
	"math/rand"
	"slices"
	"testing"

	"drydock/api"
	"drydock/testfleet"
	"drydock/transition"
)

// answers returns all results of all functions for some arguments.
func answers(f api.Fleet, now api.Layout, room []int, x api.Transition) []any {
	n, nErr := transition.Network(f, now, room)
	least, lErr := transition.Least(f, now, room)
	return []any{n, nErr, least, lErr, transition.Moved(now, x.Final), transition.Check(f, now, room, x)}
}

// lists returns all lists of some results, of numbers and of arcs.
func lists(results []any) ([][]int, []api.Arc) {
	least := results[2].(api.Transition)
	return append(slices.Clone(least.Final), least.Potentials), results[0].(api.Network).Arcs
}

// overwrite changes the memory of one list of some results after the other, also behind their ends, and checks that no other result changes with it.
func overwrite(t *testing.T, results []any) {
	t.Helper()
	numbers, arcs := lists(results)
	for i, list := range numbers {
		before := fmt.Sprint(slices.Delete(slices.Clone(numbers), i, i+1), arcs)
		for j := range list[:cap(list)] {
			list[:cap(list)][j] = -77
		}
		if after := fmt.Sprint(slices.Delete(slices.Clone(numbers), i, i+1), arcs); after != before {
			t.Errorf("%s became %s with list %d", before, after, i)
		}
	}
	before := fmt.Sprint(numbers)
	for i := range arcs[:cap(arcs)] {
		arcs[:cap(arcs)][i] = api.Arc{From: -77}
	}
	if after := fmt.Sprint(numbers); after != before {
		t.Errorf("%s became %s with the arcs", before, after)
	}
	clear(results[2].(api.Transition).Final)
}

// R2 and R6: no call changes its arguments, each gives the same result again, and what becomes of a result changes neither the arguments nor other results.
func TestResultsApart(t *testing.T) {
	r := rand.New(rand.NewSource(15))
	for range 300 {
		f, _ := largeFleet(r)
		now, room := testfleet.RandomLayout(r.Intn, f), testfleet.RandomRoom(r.Intn, f)
		if r.Intn(4) > 0 {
			room = nil
		}
		x, _ := transition.Least(f, now, room)
		kept := fmt.Sprint(f, now, room, x)
		first, second := answers(f, now, room, x), answers(f, now, room, x)
		text := fmt.Sprint(first)
		overwrite(t, first)
		if got := fmt.Sprint(second); got != text {
			t.Errorf("%s, and the second time %s", text, got)
		}
		if got := fmt.Sprint(answers(f, now, room, x)); got != text {
			t.Errorf("%s, and afterwards %s", text, got)
		}
		if got := fmt.Sprint(f, now, room, x); got != kept {
			t.Errorf("the arguments %s became %s", kept, got)
		}
	}
}

// spared returns a list with more behind its end.
func spared(list []int) []int {
	return append(slices.Clone(list), 77, 78, 79)[:len(list)]
}

// R2: what is written over arguments changes no result that was returned before, and nothing is written behind their elements.
func TestArgumentsNotKept(t *testing.T) {
	for _, last := range []int{1, 2} {
		f, room := testfleet.Sample(), spared([]int{1, 1, 2, last})
		now := api.Layout{spared([]int{1, 0}), spared([]int{0, 2, 3})}
		least, _ := transition.Least(f, now, room)
		x := api.Transition{Moved: least.Moved, Potentials: spared(least.Potentials)}
		arguments := [][]int{room, now[0], now[1], x.Potentials}
		for _, row := range least.Final {
			x.Final = append(x.Final, spared(row))
			arguments = append(arguments, x.Final[len(x.Final)-1])
		}
		results := answers(f, now, room, x)
		text := fmt.Sprint(results)
		for _, list := range arguments {
			if !slices.Equal(list[len(list):len(list)+3], []int{77, 78, 79}) {
				t.Error("a call writes behind its arguments")
			}
			clear(list)
		}
		clear(now)
		clear(x.Final)
		clear(f.Drives)
		clear(f.Domains)
		clear(f.Policies)
		if got := fmt.Sprint(results); got != text {
			t.Errorf("%s became %s", text, got)
		}
	}
}

// R3: nil and empty lists are the same in arguments.
func TestEmptyLists(t *testing.T) {
	f, empty := testfleet.Nothing()
	x := api.Transition{Final: api.Layout{}, Potentials: []int{}}
	if got, want := fmt.Sprint(answers(empty, api.Layout{}, []int{}, x)), fmt.Sprint(answers(f, nil, nil, api.Transition{})); got != want {
		t.Errorf("%s, and for nil %s", got, want)
	}
	f, now, _, least := leastOfSample(t)
	if got, want := fmt.Sprint(answers(f, now, []int{}, least)), fmt.Sprint(answers(f, now, nil, least)); got != want {
		t.Errorf("of the sample: %s, and for nil %s", got, want)
	}
	if got, want := fmt.Sprint(answers(f, api.Layout{{}, {}}, []int{}, x)), fmt.Sprint(answers(f, api.Layout{nil, nil}, nil, api.Transition{})); got != want {
		t.Errorf("with empty rows: %s, and for nil %s", got, want)
	}
}

// P15.2 to P15.4: names, the numbers of other layers, the order of the models of a policy and the form of fractions change no result.
func TestOtherFieldsDoNotCount(t *testing.T) {
	r := rand.New(rand.NewSource(16))
	for range 200 {
		f := possibleFleet(r)
		now, room := testfleet.RandomLayout(r.Intn, f), lessRoom(r, f)
		x, _ := transition.Least(f, now, room)
		want := fmt.Sprint(answers(f, now, room, x))
		if got := fmt.Sprint(answers(testfleet.Disguise(f), now, room, x)); got != want {
			t.Errorf("%s, and before %s", got, want)
		}
	}
}

// R1 and R8: every call ends, whatever the numbers are.
func TestAnyArguments(t *testing.T) {
	wild := []int{math.MinInt, math.MinInt + 1, -1 << 32, -1_000_000_000, -2, -1, 0, 1, 2, 3, 4, 1_000_000_000, 1 << 31, 1 << 32, math.MaxInt - 1, math.MaxInt}
	r := rand.New(rand.NewSource(17))
	numbers := func(n int) []int {
		out := make([]int, n)
		for i := range out {
			out[i] = wild[r.Intn(len(wild))]
		}
		return out
	}
	f, now, _, least := leastOfSample(t)
	for range 3000 {
		room, within := numbers(4), make([]int, 4)
		for i := range room {
			within[i] = max(0, min(room[i], 4))
		}
		if got, want := fmt.Sprint(answers(f, now, room, least)), fmt.Sprint(answers(f, now, within, least)); got != want {
			t.Errorf("the rooms %v: %s, and for %v %s", room, got, within, want)
		}
		wildLayout := api.Layout{numbers(2), numbers(3)}
		if err := answers(f, wildLayout, room, least)[1]; (err == api.OK) != isShaped(wildLayout) {
			t.Errorf("%v: the error %d", wildLayout, err)
		}
		x := api.Transition{Final: wildLayout, Moved: moved(now, wildLayout), Potentials: least.Potentials}
		checkAnswer(t, "any layout", f, now, room, x, accepted(f, now, room, x))
		least.Potentials = numbers(26)
		checkAnswer(t, "any potentials", f, now, nil, least, false)
	}
	const many = 1 << 20
	checkAnswer(t, "many potentials", f, now, nil, api.Transition{Final: now, Potentials: make([]int, many)}, false)
	checkAnswer(t, "many rows", f, now, nil, api.Transition{Final: make(api.Layout, many), Potentials: make([]int, 26)}, false)
	checkAnswer(t, "many elements", f, now, nil, api.Transition{Final: api.Layout{now[0], make([]int, many)}, Potentials: make([]int, 26)}, false)
	checkLeast(t, "many rooms", f, now, make([]int, many), 0)
}

// isShaped reports whether all elements of a layout of the sample are -1 or drives.
func isShaped(l api.Layout) bool {
	return !slices.ContainsFunc(slices.Concat(l...), func(drive int) bool { return drive < -1 || drive > 3 })
}
