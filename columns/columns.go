// Package columns: column generation with a bound.
package columns

import "drydock/api"

// Solve is specified in the chapter of this layer.
func Solve(f api.Fleet, x api.Failures, room []int) (_ api.Fractional, _ api.Errno) { return }

// Bound is specified in the chapter of this layer.
func Bound(f api.Fleet, room []int, demandPrices, drivePrices []api.Frac) (_ api.Frac, _ api.Errno) {
	return
}

// Priced is specified in the chapter of this layer.
func Priced(f api.Fleet, x api.Failures, demandPrices, drivePrices []api.Frac) (_ bool) { return }

// Check is specified in the chapter of this layer.
func Check(f api.Fleet, x api.Failures, room []int, r api.Fractional) (_ bool) { return }
