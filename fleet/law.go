package fleet

import (
	"slices"

	"drydock/api"
	"drydock/fraction"
)

// ValidLaw reports whether l is a law of failures, whatever its name is.
func ValidLaw(l api.Law) bool {
	n := len(l.Start)
	return isWithin(n, 1, api.MaxPhases) && len(l.Exit) == n && len(l.Rates) == n &&
		all(l.Rates, func(row []api.Frac) bool { return len(row) == n && areAmounts(row) }) &&
		areAmounts(l.Start) && areAmounts(l.Exit) &&
		addUp(l.Start) && stayNowhere(l.Rates) && everyPhaseEnds(l)
}

func areAmounts(row []api.Frac) bool {
	return all(row, isAmount)
}

// addUp reports whether the sum of probabilities is 1.
func addUp(row []api.Frac) bool {
	// So few amounts have a sum that is never too long.
	sum, _ := fraction.Sum(row...)
	return hasValue(sum, 1)
}

// stayNowhere reports whether no phase leads to itself.
func stayNowhere(rates [][]api.Frac) bool {
	for i, row := range rates {
		if !hasValue(row[i], 0) {
			return false
		}
	}
	return true
}

// everyPhaseEnds reports whether from every phase one with an exit can be reached.
func everyPhaseEnds(l api.Law) bool {
	ends := convert(l.Exit, isPositive)
	// A way that passes no phase twice has fewer steps than there are phases.
	for range l.Rates {
		for i, row := range l.Rates {
			for k, rate := range row {
				ends[i] = ends[i] || ends[k] && isPositive(rate)
			}
		}
	}
	return !slices.Contains(ends, false)
}

// lowestLaw returns l with its fractions in lowest terms.
func lowestLaw(l api.Law) api.Law {
	return api.Law{Name: l.Name, Start: lowestRow(l.Start), Rates: convert(l.Rates, lowestRow), Exit: lowestRow(l.Exit)}
}
