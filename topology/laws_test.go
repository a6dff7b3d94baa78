package topology_test

import (
	"fmt"
	"math/rand"
	"slices"
	"testing"

	"drydock/api"
	"drydock/testfleet"
	"drydock/topology"
)

// P11.5: each drive is in exactly one domain of each level, and the drives of a domain of level 0 to 3 are those of its children.
func TestTreeLaws(t *testing.T) {
	r := rand.New(rand.NewSource(5))
	for range 200 {
		f := randomFleet(r)
		in := map[[2]int]int{} // how often a drive is in domains of a level
		for domain, d := range f.Domains {
			drives := topology.Drives(f, domain)
			for _, drive := range drives {
				in[[2]int{drive, d.Level}]++
				if got := topology.At(f, drive, d.Level); got != domain {
					t.Errorf("drive %d is in the domains %d and %d of one level", drive, got, domain)
				}
			}
			var below []int
			for _, child := range topology.Children(f, domain) {
				below = append(below, topology.Drives(f, child)...)
			}
			slices.Sort(below)
			if d.Level < 4 {
				checkNumbers(t, "the drives of the children", below, drives)
			} else if len(below) != 0 {
				t.Errorf("a machine has children with the drives %v", below)
			}
		}
		for drive := range f.Drives {
			for level := range 5 {
				if n := in[[2]int{drive, level}]; n != 1 {
					t.Errorf("drive %d is in %d domains of level %d", drive, n, level)
				}
			}
		}
	}
}

// P11.5: what holds with some rooms holds with greater ones, and a changed room changes nothing but what is said of the load of its drive.
func TestGreaterRooms(t *testing.T) {
	r := rand.New(rand.NewSource(6))
	gone, holds := 0, 0
	for range 400 {
		f := randomFleet(r)
		l, room := randomLayout(r, f), make([]int, len(f.Drives))
		for i, load := range topology.Loads(f, l) {
			room[i] = load
			if r.Intn(8) == 0 {
				room[i] += r.Intn(3) - 1
			}
		}
		before := topology.Violations(f, l, room)
		for drive := range room {
			greater := slices.Clone(room)
			greater[drive] += 1 + r.Intn(3)
			after, load := topology.Violations(f, l, greater), api.Violation{Kind: api.BadLoad, Volume: -1, Where: drive}
			if !slices.Equal(without(before, load), without(after, load)) || len(after) > len(before) {
				t.Errorf("%v and %v, after a change of the room of drive %d", before, after, drive)
			}
			gone += len(before) - len(after)
			if topology.Holds(f, l, room) {
				holds++
				if !topology.Holds(f, l, greater) || !topology.Holds(f, l, nil) {
					t.Errorf("%v holds with the rooms %v, but not with greater ones", l, room)
				}
			}
		}
	}
	if gone < 50 || holds < 50 {
		t.Errorf("%d violations are gone with more room, and %d layouts hold", gone, holds)
	}
}

// without returns a list without an element.
func without(list []api.Violation, v api.Violation) []api.Violation {
	return slices.DeleteFunc(slices.Clone(list), func(x api.Violation) bool { return x == v })
}

// P11.5: a fragment that is moved to another drive brings violations at most to its volume, to its new domains and to its new drive.
func TestMovedFragments(t *testing.T) {
	r := rand.New(rand.NewSource(7))
	kinds := map[int]int{}
	for range 400 {
		f := randomFleet(r)
		l, room := randomLayout(r, f), randomRoom(r, f)
		if len(f.Drives) == 0 || len(f.Volumes) == 0 || !topology.Shaped(f, l) {
			continue
		}
		before := topology.Violations(f, l, room)
		for range 20 {
			v, drive := r.Intn(len(l)), r.Intn(len(f.Drives))
			i := r.Intn(len(l[v]))
			moved := testfleet.CloneLayout(l)
			moved[v][i] = drive
			for _, x := range topology.Violations(f, moved, room) {
				if slices.Contains(before, x) {
					continue
				}
				kinds[x.Kind]++
				if !mayAppear(f, x, v, i, l[v][i], drive) {
					t.Errorf("%v is new after fragment %d of volume %d was moved from drive %d to %d", x, i, v, l[v][i], drive)
				}
			}
		}
	}
	for kind := api.BadTwice; kind <= api.BadLoad; kind++ {
		if kinds[kind] < 50 {
			t.Errorf("%d new violations of kind %d", kinds[kind], kind)
		}
	}
}

// mayAppear reports whether a violation may be new when a fragment of a volume is moved from a drive (or -1) to another.
func mayAppear(f api.Fleet, x api.Violation, volume, fragment, from, to int) bool {
	switch x.Kind {
	case api.BadLoad:
		return x.Volume == -1 && x.Where == to
	case api.BadTwice:
		return x.Volume == volume && x.Where == to
	case api.BadModel:
		return x.Volume == volume && x.Where == fragment
	case api.BadSpread:
		level := f.Domains[x.Where].Level
		return x.Volume == volume && x.Where == topology.At(f, to, level) && x.Where != topology.At(f, from, level)
	}
	return false
}

// P11.5: two fragments of the sample that are moved to every drive in turn.
func TestMovedInSample(t *testing.T) {
	for _, c := range []struct {
		volume, fragment int
		want             []string
	}{
		{0, 2, []string{
			"twice 0 0, spread 0 3, spread 0 10, load -1 0", "twice 0 1, spread 0 3, spread 0 7", "", "model 0 2, spread 0 3",
			"spread 0 3, spread 0 10", "load -1 5", "spread 0 3",
		}},
		{2, 2, []string{
			"spread 2 1, load -1 0", "spread 2 1", "", "twice 2 3, spread 2 1, spread 2 8",
			"twice 2 4, spread 2 1", "", "twice 2 6, spread 2 1, spread 2 8",
		}},
	} {
		for drive, want := range c.want {
			l := sampleLayout()
			l[c.volume][c.fragment] = drive
			checkViolations(t, fmt.Sprintf("fragment %d of volume %d", c.fragment, c.volume), sample(), l, nil, listed(want))
		}
	}
}

// P11.5: the room of a drive of the sample, from too little to too much.
func TestRoomInSample(t *testing.T) {
	f := sample()
	for n := -2; n <= 5; n++ {
		// Drive 3 has two fragments and 16 extents, drive 4 one fragment and three extents.
		for drive, load := range map[int]int{3: 2, 4: 1} {
			room, want := []int{1, 1, 1, 2, 1, 1, 1}, ""
			room[drive] = n
			if n < load {
				want = fmt.Sprint("load -1 ", drive)
			}
			checkViolations(t, fmt.Sprintf("the room %d of drive %d", n, drive), f, sampleLayout(), room, listed(want))
		}
	}
}
