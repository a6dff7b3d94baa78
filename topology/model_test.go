package topology_test

import (
	"cmp"
	"slices"

	"drydock/api"
)

// The tests say in the words of the chapter, apart from the program, what is in a domain and what is violated.

// content returns the drives in a domain: those in it, if it is a machine, and those in its child domains.
func content(f api.Fleet, domain int) map[int]bool {
	out := map[int]bool{}
	for i, d := range f.Drives {
		if d.Machine == domain {
			out[i] = true
		}
	}
	for i, d := range f.Domains {
		if d.Parent == domain {
			for drive := range content(f, i) {
				out[drive] = true
			}
		}
	}
	return out
}

// domainOf is At: it looks into every domain of the level.
func domainOf(f api.Fleet, drive, level int) int {
	for i, d := range f.Domains {
		if d.Level == level && content(f, i)[drive] {
			return i
		}
	}
	return -1
}

// roomOf is an element of Room.
func roomOf(f api.Fleet, room []int, drive int) int {
	extents := f.Models[f.Drives[drive].Model].Extents
	switch {
	case len(room) != len(f.Drives) || room[drive] > extents:
		return extents
	case room[drive] < 0:
		return 0
	}
	return room[drive]
}

// loadOf is an element of Loads.
func loadOf(l api.Layout, drive int) int {
	n := 0
	for _, x := range slices.Concat(l...) {
		if x == drive {
			n++
		}
	}
	return n
}

// misshaped returns the BadShape of a row, if it has one.
func misshaped(f api.Fleet, v int, row []int) []api.Violation {
	p := f.Policies[f.Volumes[v].Policy]
	if n := p.K + p.M; len(row) != n {
		return []api.Violation{{Kind: api.BadShape, Volume: v, Where: len(row)}}
	}
	for i, x := range row {
		if x < -1 || x >= len(f.Drives) {
			return []api.Violation{{Kind: api.BadShape, Volume: v, Where: i}}
		}
	}
	return nil
}

// shaped is Shaped.
func shaped(f api.Fleet, l api.Layout) bool {
	if len(l) != len(f.Volumes) {
		return false
	}
	for v, row := range l {
		if misshaped(f, v, row) != nil {
			return false
		}
	}
	return true
}

// violated is Violations: it collects all of them in any order, and sorts them.
func violated(f api.Fleet, l api.Layout, room []int) []api.Violation {
	if len(l) != len(f.Volumes) {
		return []api.Violation{{Kind: api.BadShape, Volume: -1, Where: len(l)}}
	}
	found := map[api.Violation]bool{}
	for drive := range f.Drives {
		if loadOf(l, drive) > roomOf(f, room, drive) {
			found[api.Violation{Kind: api.BadLoad, Volume: -1, Where: drive}] = true
		}
	}
	for v, row := range l {
		if bad := misshaped(f, v, row); bad != nil {
			found[bad[0]] = true
			continue
		}
		fragments(f, v, row, found)
		domains(f, v, row, found)
	}
	var out []api.Violation
	for x := range found {
		out = append(out, x)
	}
	slices.SortFunc(out, func(a, b api.Violation) int {
		// As an unsigned number -1 is the greatest.
		return cmp.Or(cmp.Compare(uint(a.Volume), uint(b.Volume)), a.Kind-b.Kind, a.Where-b.Where)
	})
	return out
}

// fragments finds what is wrong with single fragments and with pairs of them.
func fragments(f api.Fleet, v int, row []int, found map[api.Violation]bool) {
	for i, x := range row {
		if x == -1 {
			found[api.Violation{Kind: api.BadHome, Volume: v, Where: i}] = true
			continue
		}
		if slices.Contains(row[:i], x) {
			found[api.Violation{Kind: api.BadTwice, Volume: v, Where: x}] = true
		}
		if !slices.Contains(f.Policies[f.Volumes[v].Policy].Models, f.Drives[x].Model) {
			found[api.Violation{Kind: api.BadModel, Volume: v, Where: i}] = true
		}
	}
}

// domains finds the domains with too many fragments.
func domains(f api.Fleet, v int, row []int, found map[api.Violation]bool) {
	for i, d := range f.Domains {
		bound := f.Policies[f.Volumes[v].Policy].Spread[d.Level]
		drives, n := content(f, i), 0
		for _, x := range row {
			if drives[x] {
				n++
			}
		}
		if bound > 0 && n > bound {
			found[api.Violation{Kind: api.BadSpread, Volume: v, Where: i}] = true
		}
	}
}
