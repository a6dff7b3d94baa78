package topology_test

import (
	"fmt"
	"math"
	"math/rand"
	"testing"

	"drydock/api"
	"drydock/testfleet"
	"drydock/topology"
)

// P11.1: the domain of each level for each drive of the sample, and for drives and levels that do not exist.
func TestAt(t *testing.T) {
	f := sample()
	want := [][]int{{0, 1, 3, 6, 10}, {0, 1, 3, 6, 7}, {0, 2, 4, 5, 9}, {0, 1, 3, 8, 11}, {0, 1, 3, 6, 10}, {0, 2, 4, 5, 9}, {0, 1, 3, 8, 11}}
	for _, drive := range []int{math.MinInt, -7, -2, -1, 0, 1, 2, 3, 4, 5, 6, 7, 8, 24, math.MaxInt} {
		for _, level := range []int{math.MinInt, -5, -1, 0, 1, 2, 3, 4, 5, 6, math.MaxInt} {
			domain := -1
			if drive >= 0 && drive < 7 && level >= 0 && level < 5 {
				domain = want[drive][level]
			}
			if got := topology.At(f, drive, level); got != domain {
				t.Errorf("drive %d, level %d: domain %d, want %d", drive, level, got, domain)
			}
		}
	}
}

// P11.1: the drives and the children of each domain of the sample, and of domains that do not exist.
func TestDrivesAndChildren(t *testing.T) {
	f := sample()
	drives := [][]int{{0, 1, 2, 3, 4, 5, 6}, {0, 1, 3, 4, 6}, {2, 5}, {0, 1, 3, 4, 6}, {2, 5}, {2, 5}, {0, 1, 4}, {1}, {3, 6}, {2, 5}, {0, 4}, {3, 6}, {}, {}, {}}
	children := [][]int{{1, 2, 14}, {3, 13}, {4}, {6, 8}, {5}, {9}, {7, 10}, {}, {11, 12}, {}, {}, {}, {}, {}, {}}
	for domain := range f.Domains {
		checkNumbers(t, fmt.Sprint("Drives of ", domain), topology.Drives(f, domain), drives[domain])
		checkNumbers(t, fmt.Sprint("Children of ", domain), topology.Children(f, domain), children[domain])
	}
	// The fleet has the Parent -1, but a domain -1 does not exist.
	for _, domain := range []int{math.MinInt, -2, -1, 15, 16, 40, math.MaxInt} {
		checkNumbers(t, fmt.Sprint("Drives of ", domain), topology.Drives(f, domain), nil)
		checkNumbers(t, fmt.Sprint("Children of ", domain), topology.Children(f, domain), nil)
	}
}

// P11.1: a fleet without drives, and one without anything.
func TestEmptyTree(t *testing.T) {
	f := testfleet.Build([]int{0, 1}, []int{1}, nil, nil)
	checkNumbers(t, "Drives of a fleet without drives", topology.Drives(f, 0), nil)
	checkNumbers(t, "Children of a fleet without drives", topology.Children(f, 1), []int{2})
	least := testfleet.Build(nil, nil, nil, nil)
	checkNumbers(t, "Drives of the least fleet", topology.Drives(least, 0), nil)
	checkNumbers(t, "Children of the least fleet", topology.Children(least, 0), nil)
	if topology.At(f, 0, 0) != -1 || topology.At(least, 0, 0) != -1 {
		t.Error("a domain of a drive that does not exist")
	}
}

// P11.1: a domain may stand before or behind any other but its parent, and a machine anywhere in a full fleet.
func TestFullTree(t *testing.T) {
	var parents []int
	var drives []api.Drive
	for i := range 3 {
		parents = append(parents, i)
	}
	for len(parents) < 39 {
		parents = append(parents, 3)
	}
	for i := range 24 {
		drives = append(drives, api.Drive{Machine: 39 - i})
	}
	f := testfleet.Build(parents, []int{1}, drives, nil)
	for drive := range f.Drives {
		for level, want := range []int{0, 1, 2, 3, 39 - drive} {
			if got := topology.At(f, drive, level); got != want {
				t.Errorf("drive %d, level %d: domain %d, want %d", drive, level, got, want)
			}
		}
		checkNumbers(t, "the drives of a machine", topology.Drives(f, 39-drive), []int{drive})
	}
	if n := len(topology.Drives(f, 3)); n != 24 {
		t.Errorf("%d drives in the rack", n)
	}
	if n := len(topology.Children(f, 3)); n != 36 {
		t.Errorf("%d machines in the rack", n)
	}
}

// P11.1: random fleets, compared with the model.
func TestRandomTrees(t *testing.T) {
	r := rand.New(rand.NewSource(1))
	for range 300 {
		f := randomFleet(r)
		for drive := -1; drive <= len(f.Drives); drive++ {
			for level := -1; level <= 5; level++ {
				if got, want := topology.At(f, drive, level), domainOf(f, drive, level); got != want {
					t.Fatalf("drive %d, level %d: domain %d, want %d", drive, level, got, want)
				}
			}
		}
		for domain := range f.Domains {
			var drives, children []int
			for i := range f.Drives {
				if content(f, domain)[i] {
					drives = append(drives, i)
				}
			}
			for i, d := range f.Domains {
				if d.Parent == domain {
					children = append(children, i)
				}
			}
			checkNumbers(t, "Drives", topology.Drives(f, domain), drives)
			checkNumbers(t, "Children", topology.Children(f, domain), children)
		}
	}
}
