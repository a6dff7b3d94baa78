package transition

import (
	"slices"

	"drydock/api"
	"drydock/topology"
)

// seat is a drive on which a fragment of a volume may lie, and the arc of the placement network that leads to it.
type seat struct{ arc, volume, drive int }

// seatsOf returns the seats of all volumes.
func seatsOf(f api.Fleet, n api.Network) []seat {
	var out []seat
	volume, firstDrive := -1, n.Nodes-len(f.Drives)
	for i, a := range n.Arcs {
		if a.From == n.Source {
			// The arcs of the next volume begin here.
			volume++
		}
		if a.To >= firstDrive {
			out = append(out, seat{arc: i, volume: volume, drive: a.To - firstDrive})
		}
	}
	return out
}

// charge sets the Cost of each seat to which a fragment would have to be moved.
func charge(f api.Fleet, n api.Network, now api.Layout) {
	taken := make([]map[int]bool, len(now))
	for v, row := range now {
		taken[v] = setOf(row)
	}
	for _, s := range seatsOf(f, n) {
		if !taken[s.volume][s.drive] {
			n.Arcs[s.arc].Cost = 1
		}
	}
}

// finalOf returns the layout of a flow that brings all fragments to drives.
func finalOf(f api.Fleet, n api.Network, now api.Layout, flow []int) api.Layout {
	chosen := make([][]int, len(now))
	for _, s := range seatsOf(f, n) {
		if flow[s.arc] > 0 {
			chosen[s.volume] = append(chosen[s.volume], s.drive)
		}
	}
	var out api.Layout
	for v, row := range now {
		out = append(out, settle(row, chosen[v]))
	}
	return out
}

// settle returns the chosen drives in such an order that what row has on one of them stays there.
func settle(row, chosen []int) []int {
	free := setOf(chosen)
	out := slices.Clone(row)
	var moving []int
	for i, drive := range row {
		if free[drive] {
			delete(free, drive)
		} else {
			moving = append(moving, i)
		}
	}
	for _, drive := range chosen {
		if free[drive] {
			out[moving[0]], moving = drive, moving[1:]
		}
	}
	return out
}

func setOf(drives []int) map[int]bool {
	set := map[int]bool{}
	for _, drive := range drives {
		set[drive] = true
	}
	return set
}

// flowOf returns the flow of a layout that violates no constraint: on each arc of the placement network, in their order, how many fragments go along it.
func flowOf(f api.Fleet, l api.Layout) []int {
	var flow []int
	for v, row := range l {
		// All of a volume, on its arc from Source, is what it has in domain 0.
		flow = append(flow, inside(f, row)...)
		lies, models := setOf(row), f.Policies[f.Volumes[v].Policy].Models
		for i, d := range f.Drives {
			if slices.Contains(models, d.Model) {
				flow = append(flow, number(lies[i]))
			}
		}
	}
	return append(flow, topology.Loads(f, l)...)
}

// inside returns for each domain how many of some drives are in it.
func inside(f api.Fleet, drives []int) []int {
	out := make([]int, len(f.Domains))
	for _, drive := range drives {
		for domain := f.Drives[drive].Machine; domain >= 0; domain = f.Domains[domain].Parent {
			out[domain]++
		}
	}
	return out
}

// number returns 1 for what is so, and 0 for what is not.
func number(is bool) int {
	if is {
		return 1
	}
	return 0
}
