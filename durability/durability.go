// Package durability: enclosures of loss probabilities, targets, risk.
package durability

import "drydock/api"

// Loss is specified in the chapter of this layer.
func Loss(c api.Chain, horizon api.Frac, bits int) (_ api.Interval, _ api.Errno) { return }

// Decide is specified in the chapter of this layer.
func Decide(c api.Chain, horizon, target api.Frac, bits int) (_ int, _ api.Interval, _ api.Errno) {
	return
}

// Risks is specified in the chapter of this layer.
func Risks(law api.Law, k, m int, repair []api.Frac, horizon api.Frac, bits int) (_ []api.Interval, _ api.Errno) {
	return
}

// Durable is specified in the chapter of this layer.
func Durable(f api.Fleet, policy int, set []int, bits int) (_ int, _ api.Interval, _ api.Errno) {
	return
}
