package linear_test

import (
	"math/big"
	"testing"

	"drydock/api"
	"drydock/fraction"
	"drydock/linear"
	"drydock/testfrac"
)

// isMatrix reports whether a is a matrix, as the document says it.
func isMatrix(a [][]api.Frac) bool {
	if len(a) < 1 || len(a) > api.MaxOrder || len(a[0]) < 1 || len(a[0]) > api.MaxOrder {
		return false
	}
	for _, row := range a {
		if len(row) != len(a[0]) || !isValid(row) {
			return false
		}
	}
	return true
}

// isValid reports whether all elements of l are valid.
func isValid(l []api.Frac) bool {
	for _, x := range l {
		if !fraction.Valid(x) {
			return false
		}
	}
	return true
}

// productError returns the first error of a product of a with rows. Count has to be the number of columns of a.
func productError(a [][]api.Frac, valid bool, count int, rows ...[]api.Frac) api.Errno {
	switch {
	case !isMatrix(a) || !valid || count != len(a[0]):
		return api.ErrArg
	case valued(a).weight()+valued(rows).weight() > 2*api.MaxWeight:
		return api.ErrSize
	}
	return api.OK
}

// squareError returns the first error of a function of a square matrix, which has to be regular for some. The weight of b counts too.
func squareError(a [][]api.Frac, b []api.Frac, valid, regular bool) api.Errno {
	switch {
	case !isMatrix(a) || len(a) != len(a[0]) || !valid:
		return api.ErrArg
	case valued(a).weight()+valued([][]api.Frac{b}).weight() > api.MaxWeight:
		return api.ErrSize
	case regular:
		if rank, _ := valued(a).triangle(); rank < len(a) {
			return api.ErrSingular
		}
	}
	return api.OK
}

// checkError compares an error with the expected one, and whether all other results are zero values with it.
func checkError(t *testing.T, name string, empty bool, err, want api.Errno) {
	t.Helper()
	if err != want || empty != (want != api.OK) {
		t.Errorf("%s: error %d, want %d; no other result: %v", name, err, want, empty)
	}
}

// isNothing reports whether x is the zero value.
func isNothing(x api.Frac) bool {
	return identical(x, api.Frac{})
}

// checkErrors checks the errors of all functions that take one matrix.
func checkErrors(t *testing.T, name string, a [][]api.Frac) {
	t.Helper()
	inverse, err := linear.Invert(a)
	checkError(t, "Invert of "+name, len(inverse) == 0, err, squareError(a, nil, true, true))
	det, err := linear.Det(a)
	checkError(t, "Det of "+name, isNothing(det), err, squareError(a, nil, true, false))
	want := api.OK
	if !isMatrix(a) {
		want = api.ErrArg
	} else if valued(a).weight() > api.MaxWeight {
		want = api.ErrSize
	}
	rank, err := linear.Rank(a)
	if err != want || want != api.OK && rank != 0 {
		t.Errorf("Rank of %s = %d, %d, want error %d", name, rank, err, want)
	}
}

// checkPair checks the errors of all functions that take two arguments, of which the second one is a vector for some.
func checkPair(t *testing.T, name string, a, b [][]api.Frac) {
	t.Helper()
	product, err := linear.Mul(a, b)
	checkError(t, "Mul of "+name, len(product) == 0, err, productError(a, isMatrix(b), len(b), b...))
	var v []api.Frac
	if len(b) > 0 {
		v = b[0]
	}
	list, err := linear.Apply(a, v)
	checkError(t, "Apply of "+name, len(list) == 0, err, productError(a, isValid(v), len(v), v))
	list, err = linear.Solve(a, v)
	checkError(t, "Solve of "+name, len(list) == 0, err, squareError(a, v, isValid(v) && len(v) == len(a), true))
}

// example is an argument with a name.
type example struct {
	name string
	a    [][]api.Frac
}

// with returns m with an element that is replaced by x.
func (m model) with(i, j int, x api.Frac) [][]api.Frac {
	out := m.fracs()
	out[i][j] = x
	return out
}

// heavy returns a matrix with the given weight: with 1 in its diagonal, and all the rest of the weight in its last element.
func heavy(rows, columns, weight int) model {
	out := filled(rows, columns, func(i, j int) *big.Rat {
		if i == j {
			return ratio(1, 1)
		}
		return ratio(0, 1)
	})
	last := out[rows-1][columns-1]
	last.Set(power(weight - out.weight() + last.Num().BitLen() - 1))
	return out
}

// examples returns matrices of which one or more errors apply to every function, and matrices without errors.
func examples() []example {
	most, longest, bad := api.MaxOrder, frac(power(edge-1)), testfrac.Invalid()
	out := []example{
		{"nil", nil}, {"no rows", [][]api.Frac{}}, {"a row that is nil", [][]api.Frac{nil}}, {"a row without elements", [][]api.Frac{{}}}, {"2 rows that are nil", make([][]api.Frac, 2)},
		{"a short row", [][]api.Frac{parse("1 2").fracs()[0], parse("3").fracs()[0]}}, {"a long row", [][]api.Frac{parse("1 0").fracs()[0], parse("3 0 1").fracs()[0]}},
		{"a first row without elements", [][]api.Frac{{}, parse("3").fracs()[0]}},
		{"25 rows", constant(most+1, 1, 1).fracs()}, {"25 columns", constant(1, most+1, 1).fracs()}, {"25 rows and columns", unit(most + 1).fracs()}, {"25 heavy columns", heavy(2, most+1, 4001).fracs()},
		{"24 rows", constant(most, 1, 1).fracs()}, {"24 columns", constant(1, most, 1).fracs()}, {"24 rows and columns", unit(most).fracs()}, {"24 zeros", constant(most, most, 0).fracs()},
		{"the longest number", [][]api.Frac{{longest}}}, {"two of the longest numbers", [][]api.Frac{{longest, longest}, {longest, longest}}}, {"a longest number", parse("1 0; 0 1").with(1, 1, longest)},
		{"a long singular one", parse("0 0; 1 0").with(0, 1, longest)}, {"long equal rows", parse("1 0; 1 0").with(0, 0, api.Frac{Num: api.Nat{1}, Den: longest.Num})},
		{"0", parse("0").fracs()}, {"1", parse("-1/2").fracs()}, {"2 rows and columns", parse("1 2; 3 4").fracs()}, {"equal rows", parse("1 2; 1 2").fracs()}, {"1 row", parse("1 2").fracs()}, {"2 rows", parse("1; 2").fracs()},
		{"0 with a long form", [][]api.Frac{{{Neg: true, Num: make(api.Nat, 500), Den: append(longest.Num, 0)}}}},
		{"a form of 1", [][]api.Frac{{{Num: append(longest.Num, 0), Den: longest.Num}}}},
	}
	for i, x := range bad {
		out = append(out, example{"one that is not valid", [][]api.Frac{{x}}}, example{"one that is not valid, last", parse("1 0; 0 1").with(1, 1, x)},
			example{"one that is not valid, singular", parse("0 0; 0 1").with(i%2, 0, x)}, example{"one that is not valid, heavy", heavy(2, 2, 4000).with(i%2, 0, x)})
	}
	for _, weight := range []int{950, 951, api.MaxWeight - 1, api.MaxWeight, api.MaxWeight + 1, 2 * api.MaxWeight, 2*api.MaxWeight + 1} {
		equal := constant(2, 2, 0)
		equal[0][0], equal[1][0] = power(weight/2-1), power(weight-weight/2-1)
		out = append(out, example{"a heavy number", heavy(1, 1, weight).fracs()}, example{"heavy", heavy(2, 2, weight).fracs()}, example{"heavy and singular", equal.fracs()},
			example{"2 heavy rows", heavy(2, 1, weight).fracs()}, example{"2 heavy columns", heavy(1, 2, weight).fracs()}, example{"24 heavy rows", heavy(most, most, weight).fracs()})
	}
	return out
}

// P5.2, P5.3: every error of functions of one matrix, and the first one where several apply.
func TestErrors(t *testing.T) {
	for _, e := range examples() {
		checkErrors(t, e.name, e.a)
	}
}

// P5.2, P5.3: the same for two arguments: every pair.
func TestErrorsOfPairs(t *testing.T) {
	list := examples()
	for _, e := range list {
		for _, f := range list {
			checkPair(t, e.name+" and "+f.name, e.a, f.a)
		}
	}
}

// P5.2, P5.3: errors written out, with arguments to which several apply.
func TestErrorsByHand(t *testing.T) {
	ragged := [][]api.Frac{parse("1 2").fracs()[0], parse("3").fracs()[0]}
	wide, heavyWide := parse("1 2 3; 4 5 6").fracs(), heavy(2, 3, 4000).fracs()
	singular, heavySingular := parse("1 2; 2 4").fracs(), parse("1 0; 1 0").with(1, 0, frac(power(3900)))
	light, mostly, full, over := parse("1 0; 0 1").fracs(), heavy(2, 2, api.MaxWeight-2).fracs(), heavy(2, 2, api.MaxWeight).fracs(), heavy(2, 2, api.MaxWeight+1).fracs()
	for _, c := range []struct {
		a             [][]api.Frac
		solve, invert api.Errno
		det, rank     api.Errno
	}{
		{nil, api.ErrArg, api.ErrArg, api.ErrArg, api.ErrArg}, {ragged, api.ErrArg, api.ErrArg, api.ErrArg, api.ErrArg},
		{wide, api.ErrArg, api.ErrArg, api.ErrArg, api.OK}, {heavyWide, api.ErrArg, api.ErrArg, api.ErrArg, api.ErrSize},
		{singular, api.ErrSingular, api.ErrSingular, api.OK, api.OK}, {heavySingular, api.ErrSize, api.ErrSize, api.ErrSize, api.ErrSize},
		{light, api.OK, api.OK, api.OK, api.OK}, {mostly, api.OK, api.OK, api.OK, api.OK}, {full, api.ErrSize, api.OK, api.OK, api.OK}, {over, api.ErrSize, api.ErrSize, api.ErrSize, api.ErrSize},
	} {
		_, err := linear.Solve(c.a, parse("0 3").fracs()[0]) // the weight of the vector is 2
		_, fail := linear.Invert(c.a)
		_, wrong := linear.Det(c.a)
		if _, no := linear.Rank(c.a); err != c.solve || fail != c.invert || wrong != c.det || no != c.rank {
			t.Errorf("%v: errors %d, %d, %d, %d", c.a, err, fail, wrong, no)
		}
	}
	for _, c := range []struct {
		a, b       [][]api.Frac
		mul, apply api.Errno
	}{
		{light, ragged, api.ErrArg, api.OK}, {ragged, light, api.ErrArg, api.ErrArg}, {light, wide, api.OK, api.ErrArg}, {wide, light, api.ErrArg, api.ErrArg}, {nil, nil, api.ErrArg, api.ErrArg},
		{heavyWide, light, api.ErrArg, api.ErrArg}, {light, heavyWide, api.ErrSize, api.ErrArg}, {full, full, api.OK, api.OK}, {full, over, api.ErrSize, api.OK}, {over, full, api.ErrSize, api.OK},
		{heavySingular, light, api.ErrSize, api.ErrSize}, {heavyWide, ragged, api.ErrArg, api.ErrArg},
	} {
		_, err := linear.Mul(c.a, c.b)
		var v []api.Frac
		if len(c.b) > 0 {
			v = c.b[0]
		}
		if _, fail := linear.Apply(c.a, v); err != c.mul || fail != c.apply {
			t.Errorf("%v and %v: errors %d and %d", c.a, c.b, err, fail)
		}
	}
}
