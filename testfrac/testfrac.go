// Package testfrac makes fractions of all forms for the tests of the layers. The program itself does not use it.
package testfrac

import (
	"slices"

	"drydock/api"
	"drydock/fraction"
	"drydock/natural"
)

// Forms returns valid fractions with the value of x, which is in lowest terms: x itself, with common factors, with zero limbs at the end, and 0 with a sign. They share memory with x.
func Forms(x api.Frac) []api.Frac {
	out := []api.Frac{x}
	for _, factor := range []api.Nat{{1}, {6}, {0, 2}, slices.Repeat(api.Nat{1<<32 - 1}, 3)} {
		form := api.Frac{Neg: x.Neg, Num: times(x.Num, factor), Den: times(x.Den, factor)}
		if fraction.Valid(form) {
			out = append(out, form, api.Frac{Neg: x.Neg, Num: append(slices.Clone(form.Num), 0), Den: append(slices.Clone(form.Den), make(api.Nat, api.MaxFracLimbs)...)})
		}
	}
	if len(x.Num) == 0 {
		long := slices.Repeat(api.Nat{7}, api.MaxFracLimbs)
		out = append(out, api.Frac{Neg: true, Den: long}, api.Frac{Neg: true, Num: make(api.Nat, 200), Den: api.Nat{6}}, api.Frac{Num: api.Nat{0}, Den: long})
	}
	return out
}

// Disguised returns a list with the values of list in forms that a function chooses, which returns numbers below its argument.
func Disguised(intn func(int) int, list []api.Frac) []api.Frac {
	out := make([]api.Frac, len(list))
	for i, x := range list {
		forms := Forms(x)
		out[i] = forms[intn(len(forms))]
	}
	return out
}

// Invalid returns fractions that are not valid.
func Invalid() []api.Frac {
	long := append(make(api.Nat, api.MaxFracLimbs), 1)
	return []api.Frac{
		{}, {Num: api.Nat{1}}, {Neg: true, Den: api.Nat{0, 0}}, {Num: api.Nat{1}, Den: api.Nat{0}},
		{Num: long, Den: api.Nat{1}}, {Den: long}, {Num: long, Den: long}, {Neg: true, Num: api.Nat{1}, Den: append(long, 0)},
	}
}

// times returns the product of two numbers that are not large.
func times(a, b api.Nat) api.Nat {
	out, _ := natural.Mul(a, b)
	return out
}
