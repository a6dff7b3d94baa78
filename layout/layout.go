// Package layout: the placement engine.
package layout

import "drydock/api"

// Cost is specified in the chapter of this layer.
func Cost(f api.Fleet, x api.Failures, l api.Layout) (_ int, _ api.Errno) { return }

// Make is specified in the chapter of this layer.
func Make(f api.Fleet, x api.Failures, room []int) (_ api.Placed, _ api.Errno) { return }

// Check is specified in the chapter of this layer.
func Check(f api.Fleet, x api.Failures, room []int, p api.Placed) (_ bool) { return }

// Improve is specified in the chapter of this layer.
func Improve(f api.Fleet, x api.Failures, room []int, l api.Layout) (_ api.Layout, _ api.Errno) {
	return
}
