package fleet

import (
	"drydock/api"
	"drydock/fraction"
)

// isAmount reports whether x is a fraction of at least 0 that has, in lowest terms, no more than one limb above and one below.
func isAmount(x api.Frac) bool {
	x, err := fraction.Reduce(x)
	return err == api.OK && !x.Neg && len(x.Num) <= 1 && len(x.Den) <= 1
}

// isPositive reports whether x is an amount other than 0.
func isPositive(x api.Frac) bool {
	return isAmount(x) && !hasValue(x, 0)
}

// isProbability reports whether x is an amount of at most 1.
func isProbability(x api.Frac) bool {
	order, _ := fraction.Cmp(x, number(1))
	return isAmount(x) && order <= 0
}

// hasValue reports whether x is a fraction with the value n.
func hasValue(x api.Frac, n int64) bool {
	order, err := fraction.Cmp(x, number(n))
	return err == api.OK && order == 0
}

// number returns n as a fraction.
func number(n int64) api.Frac {
	x, _ := fraction.Make(n, 1)
	return x
}

// lowest returns x in lowest terms and in new memory. What is no fraction becomes the zero value, which is none either.
func lowest(x api.Frac) api.Frac {
	x, _ = fraction.Reduce(x)
	return x
}

func lowestRow(row []api.Frac) []api.Frac {
	return convert(row, lowest)
}
