package topology_test

import (
	"fmt"
	"math"
	"math/rand"
	"slices"
	"testing"

	"drydock/api"
	"drydock/testfleet"
	"drydock/topology"
)

// P11.3: loads of layouts of any shape.
func TestLoads(t *testing.T) {
	f := sample()
	for _, c := range []struct {
		name string
		l    api.Layout
		want []int
	}{
		{"the layout of the sample", sampleLayout(), []int{1, 1, 1, 2, 1, 1, 1}},
		{"nil", nil, []int{0, 0, 0, 0, 0, 0, 0}},
		{"empty", api.Layout{}, []int{0, 0, 0, 0, 0, 0, 0}},
		{"empty rows", api.Layout{nil, {}, nil}, []int{0, 0, 0, 0, 0, 0, 0}},
		{"one row", api.Layout{{6, 0, 6}}, []int{1, 0, 0, 0, 0, 0, 2}},
		{"more rows than volumes", api.Layout{{1}, {1}, {1}, {1}, {2, 1}}, []int{0, 5, 1, 0, 0, 0, 0}},
		{"long rows", api.Layout{slices.Repeat([]int{5, 4}, 100)}, []int{0, 0, 0, 0, 100, 100, 0}},
		{"what is no drive", api.Layout{{-1, 7, 8, -2}, {math.MinInt, 0, math.MaxInt}}, []int{1, 0, 0, 0, 0, 0, 0}},
	} {
		checkNumbers(t, c.name, topology.Loads(f, c.l), c.want)
	}
	checkNumbers(t, "no drives", topology.Loads(testfleet.Build(nil, nil, nil, nil), api.Layout{{0, -1}}), nil)
}

// P11.3: which layouts are shaped.
func TestShaped(t *testing.T) {
	f := sample()
	for _, c := range []struct {
		name string
		ok   bool
		l    api.Layout
	}{
		{"the layout of the sample", true, sampleLayout()},
		{"nothing placed", true, api.Layout{{-1, -1, -1}, {-1}, {-1, -1, -1, -1}}},
		{"all on the last drive", true, api.Layout{{6, 6, 6}, {6}, {6, 6, 6, 6}}},
		{"nil", false, nil},
		{"no rows", false, api.Layout{}},
		{"a row less", false, api.Layout{{1, 0, 2}, {3}}},
		{"a row more", false, append(sampleLayout(), []int{})},
		{"empty rows", false, api.Layout{nil, nil, nil}},
		{"the first row is nil", false, api.Layout{nil, {3}, {4, 6, 5, 3}}},
		{"the first row too short", false, api.Layout{{1, 0}, {3}, {4, 6, 5, 3}}},
		{"the second row too long", false, api.Layout{{1, 0, 2}, {3, 3}, {4, 6, 5, 3}}},
		{"the last row too short", false, api.Layout{{1, 0, 2}, {3}, {4, 6, 5}}},
		{"the last row too long", false, api.Layout{{1, 0, 2}, {3}, {4, 6, 5, 3, -1}}},
		{"a drive too large", false, api.Layout{{1, 0, 7}, {3}, {4, 6, 5, 3}}},
		{"a number below -1", false, api.Layout{{1, 0, 2}, {-2}, {4, 6, 5, 3}}},
		{"the last number", false, api.Layout{{1, 0, 2}, {3}, {4, 6, 5, math.MaxInt}}},
		{"the least number", false, api.Layout{{math.MinInt, 0, 2}, {3}, {4, 6, 5, 3}}},
	} {
		if got := topology.Shaped(f, c.l); got != c.ok {
			t.Errorf("%s: %t", c.name, got)
		}
	}
	least := testfleet.Build(nil, nil, nil, nil)
	if !topology.Shaped(least, nil) || !topology.Shaped(least, api.Layout{}) || topology.Shaped(least, api.Layout{nil}) {
		t.Error("layouts of a fleet without volumes")
	}
}

// P11.3: the length of a row is K + M of its own volume, for every code.
func TestShapedCodes(t *testing.T) {
	for k := 1; k <= 6; k++ {
		for m := 0; m <= min(4, 8-k); m++ {
			f := testfleet.Build(nil, []int{1}, nil, []api.Policy{testfleet.Policy(1, 0, [4]int{}, 0), testfleet.Policy(k, m, [4]int{}, 0)}, 0, 1)
			for n := range 12 {
				l := api.Layout{{-1}, slices.Repeat([]int{-1}, n)}
				if got := topology.Shaped(f, l); got != (n == k+m) {
					t.Errorf("%d elements for %d + %d: %t", n, k, m, got)
				}
			}
		}
	}
}

// P11.3: random layouts, compared with the model.
func TestRandomLayouts(t *testing.T) {
	r := rand.New(rand.NewSource(3))
	found := map[bool]int{}
	for range 2000 {
		f := randomFleet(r)
		l := randomLayout(r, f)
		var want []int
		for i := range f.Drives {
			want = append(want, loadOf(l, i))
		}
		checkNumbers(t, fmt.Sprint("Loads of ", l), topology.Loads(f, l), want)
		got := topology.Shaped(f, l)
		if got != shaped(f, l) {
			t.Errorf("Shaped of %v: %t", l, got)
		}
		found[got]++
	}
	if found[true] < 500 || found[false] < 300 {
		t.Errorf("layouts that are shaped and that are not: %v", found)
	}
}
