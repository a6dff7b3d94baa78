// Package lossmodel: the chain of a volume.
package lossmodel

import "drydock/api"

// Full is specified in the chapter of this layer.
func Full(laws []api.Law, k, m int, repair []api.Frac, groups [][]int, shocks []api.Frac) (_ api.Chain, _ api.Errno) {
	return
}

// Counts is specified in the chapter of this layer.
func Counts(law api.Law, k, m int, repair []api.Frac) (_ api.Chain, _ api.Errno) { return }

// Missing is specified in the chapter of this layer.
func Missing(law api.Law, k, m int, repair []api.Frac, missing int) (_ api.Chain, _ api.Errno) {
	return
}

// Merge is specified in the chapter of this layer.
func Merge(phases, k, m, state int) (_ int, _ api.Errno) { return }

// Of is specified in the chapter of this layer.
func Of(f api.Fleet, policy int, set []int) (_ api.Chain, _ api.Errno) { return }
