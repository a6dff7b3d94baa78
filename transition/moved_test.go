package transition_test

import (
	"fmt"
	"math"
	"math/rand"
	"testing"

	"drydock/api"
	"drydock/testfleet"
	"drydock/transition"
)

// checkMoved checks how many elements of two layouts differ, in both directions.
func checkMoved(t *testing.T, name string, a, b api.Layout, want int) {
	t.Helper()
	if got, back := transition.Moved(a, b), transition.Moved(b, a); got != want || back != want {
		t.Errorf("%s: Moved of %v and %v: %d, and back %d, want %d", name, a, b, got, back, want)
	}
}

// P15.1: layouts of one shape and of different shapes, by hand.
func TestMoved(t *testing.T) {
	for _, c := range []struct {
		name string
		a, b api.Layout
		want int
	}{
		{"nothing", nil, nil, 0},
		{"nothing, empty", nil, api.Layout{}, 0},
		{"empty rows", api.Layout{nil, {}}, api.Layout{{}, nil}, 0},
		{"the same", api.Layout{{1, 2}, {3}}, api.Layout{{1, 2}, {3}}, 0},
		{"the first", api.Layout{{1, 2}, {3}}, api.Layout{{0, 2}, {3}}, 1},
		{"the second", api.Layout{{1, 2}, {3}}, api.Layout{{1, 0}, {3}}, 1},
		{"the last", api.Layout{{1, 2}, {3}}, api.Layout{{1, 2}, {0}}, 1},
		{"two of different rows", api.Layout{{1, 2}, {3}}, api.Layout{{1, 3}, {2}}, 2},
		{"all", api.Layout{{1, 2}, {3}}, api.Layout{{2, 3}, {1}}, 3},
		{"the same drives in another order", api.Layout{{1, 2, 3}}, api.Layout{{1, 3, 2}}, 2},
		{"the same rows in another order", api.Layout{{1, 2}, {3, 4}}, api.Layout{{3, 4}, {1, 2}}, 4},
		{"a drive twice", api.Layout{{1, 1}}, api.Layout{{1, 2}}, 1},
		{"no drive", api.Layout{{-1, 2}}, api.Layout{{0, 2}}, 1},
		{"no drive in both", api.Layout{{-1, 2}}, api.Layout{{-1, 2}}, 0},
		{"no drives at all", api.Layout{{-1, -2}}, api.Layout{{-1, -3}}, 1},
		{"drives far away", api.Layout{{math.MinInt, math.MaxInt, 1 << 32}}, api.Layout{{math.MaxInt, math.MaxInt, 0}}, 2},
		{"a row more", api.Layout{{1}}, api.Layout{{1}, {2}}, -1},
		{"an empty row more", api.Layout{{1}}, api.Layout{{1}, {}}, -1},
		{"an empty row more than none", nil, api.Layout{nil}, -1},
		{"one element more", api.Layout{{1}}, api.Layout{{1, 2}}, -1},
		{"one element and none", api.Layout{{1}}, api.Layout{{}}, -1},
		{"one element more in the last row", api.Layout{{1}, {2}}, api.Layout{{1}, {2, 3}}, -1},
		{"one element more in the first row", api.Layout{{1, 3}, {2}}, api.Layout{{1}, {2}}, -1},
		{"the same elements in other rows", api.Layout{{1, 2}, {3}}, api.Layout{{1}, {2, 3}}, -1},
		{"the rows exchanged", api.Layout{{1, 2}, {3}}, api.Layout{{3}, {1, 2}}, -1},
		{"all differ, and a row more", api.Layout{{1, 2}}, api.Layout{{3, 4}, {5, 6}}, -1},
	} {
		checkMoved(t, c.name, c.a, c.b, c.want)
	}
}

// P15.1: random layouts that differ at some places.
func TestRandomMoved(t *testing.T) {
	r := rand.New(rand.NewSource(1))
	counts := map[int]int{}
	for range 5000 {
		var a api.Layout
		for range r.Intn(5) {
			row := make([]int, r.Intn(5))
			for i := range row {
				row[i] = r.Intn(7) - 3
			}
			a = append(a, row)
		}
		b := testfleet.CloneLayout(a)
		for v := range b {
			for i := range b[v] {
				if r.Intn(2) == 0 {
					b[v][i] = r.Intn(7) - 3
				}
			}
			if r.Intn(12) == 0 {
				b[v] = append(b[v], 1)[r.Intn(2):]
			}
		}
		if r.Intn(12) == 0 {
			b = append(b, nil)[r.Intn(2):]
		}
		want := moved(a, b)
		checkMoved(t, "random", a, b, want)
		counts[want]++
	}
	for want := -1; want <= 6; want++ {
		if counts[want] < 50 {
			t.Errorf("how many layouts differ by how much: %v", counts)
		}
	}
}

// P15.1: Moved is 0 only for equal layouts, and no way over a third layout is shorter.
func TestMovedIsADistance(t *testing.T) {
	r := rand.New(rand.NewSource(2))
	for range 2000 {
		f := smallFleet(r)
		a, b, c := testfleet.RandomLayout(r.Intn, f), testfleet.RandomLayout(r.Intn, f), testfleet.RandomLayout(r.Intn, f)
		if transition.Moved(a, c) > transition.Moved(a, b)+transition.Moved(b, c) {
			t.Errorf("%v, %v and %v", a, b, c)
		}
		if got := transition.Moved(a, b) == 0; got != (fmt.Sprint(a) == fmt.Sprint(b)) {
			t.Errorf("that nothing differs between %v and %v, is %t", a, b, got)
		}
	}
}
