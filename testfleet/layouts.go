package testfleet

import (
	"iter"
	"slices"

	"drydock/api"
	"drydock/topology"
)

// Fragments returns how many fragments a volume has: n(v) in the words of the document.
func Fragments(f api.Fleet, volume int) int {
	p := f.Policies[f.Volumes[volume].Policy]
	return p.K + p.M
}

// Allows reports whether the policy of a volume allows the model of a drive.
func Allows(f api.Fleet, volume, drive int) bool {
	return slices.Contains(f.Policies[f.Volumes[volume].Policy].Models, f.Drives[drive].Model)
}

// Empty returns the layout of f in which no fragment has a drive.
func Empty(f api.Fleet) api.Layout {
	var l api.Layout
	for v := range f.Volumes {
		l = append(l, slices.Repeat([]int{-1}, Fragments(f, v)))
	}
	return l
}

// CloneLayout returns a copy of l.
func CloneLayout(l api.Layout) api.Layout {
	var out api.Layout
	for _, row := range l {
		out = append(out, slices.Clone(row))
	}
	return out
}

// Layouts returns all layouts of f of the right shape, also those that leave fragments without a drive. They share their memory.
func Layouts(f api.Fleet) iter.Seq[api.Layout] {
	return func(yield func(api.Layout) bool) {
		l := Empty(f)
		var places []*int
		for _, row := range l {
			for i := range row {
				places = append(places, &row[i])
			}
		}
		for yield(l) && next(places, len(f.Drives)) {
		}
	}
}

// next counts on: places are the digits of a number, from -1 to drives - 1. It returns false after the last number.
func next(places []*int, drives int) bool {
	for _, place := range places {
		if *place++; *place < drives {
			return true
		}
		*place = -1
	}
	return false
}

// RandomLayout returns a layout of the right shape. Now and then it leaves a fragment without a drive, or has two of a volume on one.
func RandomLayout(pick func(n int) int, f api.Fleet) api.Layout {
	l := Empty(f)
	for _, row := range l {
		drives := shuffled(pick, len(f.Drives))
		for i := range min(len(row), len(drives)) {
			row[i] = drives[i]
			if pick(8) == 0 {
				row[i] = pick(len(drives)+1) - 1
			}
		}
	}
	return l
}

// RandomRoom returns rooms for a fleet, now and then not one for each drive.
func RandomRoom(pick func(n int) int, f api.Fleet) []int {
	room := make([]int, len(f.Drives))
	for i := range room {
		room[i] = pick(5) - 1
	}
	if pick(10) == 0 {
		room = append(room, 3, 4)[:pick(len(room)+3)]
	}
	return room
}

// Hide gives the drives of a fleet many extents, chooses a random layout, and bounds the policies so that just this layout and such as it are allowed. It returns nil if there are too few drives.
func Hide(pick func(n int) int, f *api.Fleet) api.Layout {
	for i := range f.Models {
		f.Models[i].Extents = api.MaxExtents
	}
	for i := range f.Policies {
		f.Policies[i].Spread, f.Policies[i].Models = [api.Levels]int{}, []int{0}
	}
	var l api.Layout
	for v, volume := range f.Volumes {
		if Fragments(*f, v) > len(f.Drives) {
			return nil
		}
		row := shuffled(pick, len(f.Drives))[:Fragments(*f, v)]
		allow(*f, &f.Policies[volume.Policy], row)
		l = append(l, row)
	}
	if !topology.Holds(*f, l, nil) {
		panic("the hidden layout does not hold")
	}
	return l
}

// allow gives a policy the models and bounds that a row needs.
func allow(f api.Fleet, p *api.Policy, row []int) {
	for _, drive := range row {
		if !slices.Contains(p.Models, f.Drives[drive].Model) {
			p.Models = append(p.Models, f.Drives[drive].Model)
		}
	}
	for i, d := range f.Domains[1:] {
		drives, inside := topology.Drives(f, i+1), 0
		for _, drive := range row {
			if slices.Contains(drives, drive) {
				inside++
			}
		}
		p.Spread[d.Level] = max(p.Spread[d.Level], inside)
	}
}
