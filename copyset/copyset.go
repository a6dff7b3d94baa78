// Package copyset: copysets and the failures that lose them.
package copyset

import "drydock/api"

// Admissible is specified in the chapter of this layer.
func Admissible(f api.Fleet, policy int, set []int) (_ bool) { return }

// All is specified in the chapter of this layer.
func All(f api.Fleet, policy int) (_ [][]int, _ api.Errno) { return }

// Scenarios is specified in the chapter of this layer.
func Scenarios(f api.Fleet, x api.Failures) (_ [][]int, _ api.Errno) { return }

// Losses is specified in the chapter of this layer.
func Losses(f api.Fleet, policy int, set []int, x api.Failures) (_ int, _ api.Errno) { return }

// Price is specified in the chapter of this layer.
func Price(f api.Fleet, policy int, x api.Failures, prices []api.Frac) (_ []int, _ api.Frac, _ api.Errno) {
	return
}
