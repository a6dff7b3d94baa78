package feasible_test

import (
	"fmt"
	"math"
	"math/rand"
	"slices"
	"testing"

	"drydock/api"
	"drydock/feasible"
	"drydock/testfleet"
)

// answers returns all results of all functions for some arguments.
func answers(f api.Fleet, room []int, c api.Cut) []any {
	n, nErr := feasible.Network(f, room)
	l, lErr := feasible.Place(f, room)
	why, found := feasible.Why(f, room)
	return []any{n, nErr, l, lErr, why, found, feasible.CheckCut(f, room, c)}
}

// refill sets all elements of a list, also those behind its end.
func refill[T any](list []T, x T) {
	list = list[:cap(list)]
	for i := range list {
		list[i] = x
	}
}

// overwrite changes the memory of one list of some results after the other, and checks that no other result changes with it.
func overwrite(t *testing.T, results []any) {
	t.Helper()
	n, l, c := results[0].(api.Network), results[2].(api.Layout), results[4].(api.Cut)
	var lists []func()
	lists = append(lists, func() { refill(n.Arcs, api.Arc{From: -77}) })
	for _, row := range l {
		lists = append(lists, func() { refill(row, -77) })
	}
	for _, row := range append([][]bool{c.Volumes, c.Drives}, c.Domains...) {
		lists = append(lists, func() {
			for i, x := range row[:cap(row)] {
				row[:cap(row)][i] = !x
			}
		})
	}
	for i, fill := range lists {
		before := shown(n, l, c)
		fill()
		after := shown(n, l, c)
		before[i], after[i] = "", ""
		if !slices.Equal(before, after) {
			t.Errorf("%v became %v with list %d", before, after, i)
		}
	}
	refill(l, []int{-77})
	refill(c.Domains, nil)
}

// shown returns the text of each list of some results.
func shown(n api.Network, l api.Layout, c api.Cut) []string {
	out := []string{fmt.Sprint(n)}
	for _, row := range l {
		out = append(out, fmt.Sprint(row))
	}
	for _, row := range append([][]bool{c.Volumes, c.Drives}, c.Domains...) {
		out = append(out, fmt.Sprint(row))
	}
	return out
}

// R2 and R6: no call changes its arguments, each gives the same result again, and what becomes of a result changes neither the arguments nor other results.
func TestResultsApart(t *testing.T) {
	r := rand.New(rand.NewSource(10))
	for range 300 {
		f := randomFleet(r, 5+r.Intn(20), 12, 6, 5)
		room, c := testfleet.RandomRoom(r.Intn, f), randomCut(r, f)
		kept := fmt.Sprint(f, room, c)
		first, second := answers(f, room, c), answers(f, room, c)
		text := fmt.Sprint(first)
		overwrite(t, first)
		if got := fmt.Sprint(second); got != text {
			t.Errorf("%s, and the second time %s", text, got)
		}
		if got := fmt.Sprint(answers(f, room, c)); got != text {
			t.Errorf("%s, and afterwards %s", text, got)
		}
		if got := fmt.Sprint(f, room, c); got != kept {
			t.Errorf("the arguments %s became %s", kept, got)
		}
	}
}

// R2: what is written over arguments changes no result that was returned before, and nothing is written behind their elements.
func TestArgumentsNotKept(t *testing.T) {
	for _, last := range []int{1, 3} {
		f, room := testfleet.Sample(), []int{1, 1, 1, last, 77}
		c := cutOf(f, 1<<12-1)
		lists := append([][]bool{c.Volumes, c.Drives}, c.Domains...)
		spare := make([][]bool, len(lists))
		for i := range lists {
			spare[i] = append(slices.Clone(lists[i]), true, false, true)
		}
		c = api.Cut{Volumes: spare[0][:2], Domains: [][]bool{spare[2][:9], spare[3][:9]}, Drives: spare[1][:4]}
		results := answers(f, room[:4], c)
		text := fmt.Sprint(results)
		for i := range spare {
			if !slices.Equal(spare[i][len(lists[i]):], []bool{true, false, true}) || room[4] != 77 {
				t.Error("a call writes behind its arguments")
			}
			clear(spare[i])
		}
		clear(room)
		clear(f.Drives)
		clear(f.Domains)
		clear(f.Policies)
		if got := fmt.Sprint(results); got != text {
			t.Errorf("%s became %s", text, got)
		}
	}
}

// R3: nil and empty lists are the same in arguments.
func TestEmptyLists(t *testing.T) {
	f, empty := testfleet.Nothing()
	c := api.Cut{Volumes: []bool{}, Domains: [][]bool{}, Drives: []bool{}}
	if got, want := fmt.Sprint(answers(empty, []int{}, c)), fmt.Sprint(answers(f, nil, api.Cut{})); got != want {
		t.Errorf("%s, and for nil %s", got, want)
	}
	f = testfleet.Sample()
	if got, want := fmt.Sprint(answers(f, []int{}, c)), fmt.Sprint(answers(f, nil, api.Cut{})); got != want {
		t.Errorf("of the sample: %s, and for nil %s", got, want)
	}
}

// P14.1 to P14.3: names, the numbers of other layers, the order of the models of a policy and the form of fractions change no result.
func TestOtherFieldsDoNotCount(t *testing.T) {
	r := rand.New(rand.NewSource(11))
	for range 200 {
		f := smallFleet(r)
		room, c := testfleet.RandomRoom(r.Intn, f), randomCut(r, f)
		want := fmt.Sprint(answers(f, room, c))
		if got := fmt.Sprint(answers(testfleet.Disguise(f), room, c)); got != want {
			t.Errorf("%s, and before %s", got, want)
		}
	}
}

// R1 and R8: every call ends, whatever the rooms and cuts are.
func TestAnyArguments(t *testing.T) {
	const many = 1 << 20
	f := testfleet.Sample()
	wild := []int{math.MinInt, math.MinInt + 1, -1 << 32, -1, 0, 1, 2, 3, 4, 1 << 31, 1 << 32, math.MaxInt - 1, math.MaxInt}
	r := rand.New(rand.NewSource(12))
	for range 3000 {
		room, within := make([]int, 4), make([]int, 4)
		for i := range room {
			room[i] = wild[r.Intn(len(wild))]
			within[i] = max(0, min(room[i], 4))
		}
		c := cutOf(f, r.Intn(1<<sizeOf(f)))
		if got, want := fmt.Sprint(answers(f, room, c)), fmt.Sprint(answers(f, within, c)); got != want {
			t.Errorf("the rooms %v: %s, and for %v %s", room, got, within, want)
		}
	}
	for _, room := range [][]int{make([]int, many), slices.Repeat([]int{math.MinInt}, many)} {
		checkNetwork(t, "many rooms", f, room, network(f, nil))
		checkPlaced(t, "many rooms", f, room)
		checkCut(t, "many rooms", f, room, cutOf(f, 0), false)
	}
}
