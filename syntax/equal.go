package syntax

import (
	"slices"

	"drydock/api"
	"drydock/fraction"
)

// equalLists reports whether two lists have equal elements in the same order.
func equalLists[T any](a, b []T, equal func(x, y T) bool) bool {
	if len(a) != len(b) {
		return false
	}
	for i := range a {
		if !equal(a[i], b[i]) {
			return false
		}
	}
	return true
}

// equalFracs reports whether x and y have the same value, or have none and look alike.
func equalFracs(x, y api.Frac) bool {
	order, err := fraction.Cmp(x, y)
	if err == api.OK {
		return order == 0
	}
	// A fraction that is valid does not look like one that is not.
	return x.Neg == y.Neg && slices.Equal(x.Num, y.Num) && slices.Equal(x.Den, y.Den)
}

func equalRows(a, b []api.Frac) bool {
	return equalLists(a, b, equalFracs)
}

func equalLaws(a, b api.SourceLaw) bool {
	return a.Law.Name == b.Law.Name &&
		equalRows(a.Law.Start, b.Law.Start) &&
		equalLists(a.Law.Rates, b.Law.Rates, equalRows) &&
		equalRows(a.Law.Exit, b.Law.Exit)
}

func equalModels(a, b api.SourceModel) bool {
	a.Pos = b.Pos
	return a == b
}

func equalNodes(a, b api.SourceNode) bool {
	return a.Level == b.Level && a.Name == b.Name && a.Uplink == b.Uplink && a.Model == b.Model && equalFracs(a.Shock, b.Shock)
}

func equalPolicies(a, b api.SourcePolicy) bool {
	return a.Name == b.Name &&
		a.K == b.K && a.M == b.M && a.Quorum == b.Quorum &&
		a.Spread == b.Spread &&
		slices.Equal(a.Models, b.Models) &&
		equalRows(a.Repair, b.Repair) &&
		equalFracs(a.Target, b.Target) && equalFracs(a.Horizon, b.Horizon)
}

func equalVolumes(a, b api.SourceVolume) bool {
	a.Pos = b.Pos
	return a == b
}
