package topology

import (
	"slices"

	"drydock/api"
)

// noVolume stands for the volume in violations that are not those of one volume.
const noVolume = -1

// violations returns the violated constraints of l.
func violations(f api.Fleet, l api.Layout, room []int) []api.Violation {
	if len(l) != len(f.Volumes) {
		return of(noVolume)(api.BadShape, len(l))
	}
	var out []api.Violation
	for v, row := range l {
		out = append(out, violationsOfVolume(f, v, row)...)
	}
	load, most := occurrences(f, l...), rooms(f, room)
	full := where(len(f.Drives), func(drive int) bool { return load[drive] > most[drive] })
	return append(out, of(noVolume)(api.BadLoad, full...)...)
}

// of returns a function that makes the violations of one kind of a volume.
func of(volume int) func(kind int, places ...int) []api.Violation {
	return func(kind int, places ...int) []api.Violation {
		var out []api.Violation
		for _, place := range places {
			out = append(out, api.Violation{Kind: kind, Volume: volume, Where: place})
		}
		return out
	}
}

// violationsOfVolume returns the violated constraints of a volume whose fragments lie as row says.
func violationsOfVolume(f api.Fleet, v int, row []int) []api.Violation {
	p, violated := policyOf(f, v), of(v)
	if place, found := flaw(f, p, row); found {
		return violated(api.BadShape, place)
	}
	load := occurrences(f, row)
	homeless := where(len(row), func(i int) bool { return !isDrive(f, row[i]) })
	shared := where(len(load), func(drive int) bool { return load[drive] > 1 })
	misplaced := where(len(row), func(i int) bool {
		return isDrive(f, row[i]) && !slices.Contains(p.Models, f.Drives[row[i]].Model)
	})
	crowded := where(len(f.Domains), func(domain int) bool {
		most := p.Spread[f.Domains[domain].Level]
		return most > 0 && most < loadOfDomain(f, domain, load)
	})
	return slices.Concat(
		violated(api.BadHome, homeless...), violated(api.BadTwice, shared...),
		violated(api.BadModel, misplaced...), violated(api.BadSpread, crowded...))
}

// loadOfDomain adds up the loads of the drives in a domain.
func loadOfDomain(f api.Fleet, domain int, load []int) int {
	sum := 0
	for drive, n := range load {
		if isIn(f, drive, domain) {
			sum += n
		}
	}
	return sum
}

func policyOf(f api.Fleet, volume int) api.Policy {
	return f.Policies[f.Volumes[volume].Policy]
}

// areShaped reports whether l has a row without a flaw for each volume.
func areShaped(f api.Fleet, l api.Layout) bool {
	if len(l) != len(f.Volumes) {
		return false
	}
	for v, row := range l {
		if _, found := flaw(f, policyOf(f, v), row); found {
			return false
		}
	}
	return true
}

// flaw returns why row is no row of a volume under policy p: its length if that is wrong, or else the index of its first element that is neither a drive nor -1.
func flaw(f api.Fleet, p api.Policy, row []int) (int, bool) {
	if len(row) != p.K+p.M {
		return len(row), true
	}
	i := slices.IndexFunc(row, func(drive int) bool { return drive != -1 && !isDrive(f, drive) })
	return i, i >= 0
}
