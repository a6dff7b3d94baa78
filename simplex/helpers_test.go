package simplex_test

import (
	"math/big"
	"math/rand"
	"slices"
	"strings"
	"testing"

	"drydock/api"
	"drydock/simplex"
	"drydock/testfrac"
)

// program is a linear program in the numbers of math/big.
type program struct {
	cost  []*big.Rat
	rows  [][]*big.Rat
	right []*big.Rat
}

// parse returns the program of a text: the costs, and behind each semicolon a row and, behind =, its Right.
func parse(text string) program {
	parts := strings.Split(text, ";")
	p := program{cost: numbers(parts[0])}
	for _, part := range parts[1:] {
		row, right, _ := strings.Cut(part, "=")
		p.rows = append(p.rows, numbers(row))
		p.right = append(p.right, numbers(right)...)
	}
	return p
}

// numbers returns the numbers of a text.
func numbers(text string) []*big.Rat {
	var out []*big.Rat
	for word := range strings.FieldsSeq(text) {
		v, ok := new(big.Rat).SetString(word)
		if !ok {
			panic("no number: " + word)
		}
		out = append(out, v)
	}
	return out
}

// ratio returns num / den.
func ratio(num, den int64) *big.Rat {
	return big.NewRat(num, den)
}

// power returns 2^n, for every n.
func power(n int) *big.Rat {
	out := new(big.Rat).SetInt(new(big.Int).Lsh(big.NewInt(1), uint(max(n, -n))))
	if n < 0 {
		out.Inv(out)
	}
	return out
}

// repeated returns n times the number v.
func repeated(n int, v int64) []*big.Rat {
	out := make([]*big.Rat, n)
	for i := range out {
		out[i] = ratio(v, 1)
	}
	return out
}

// blank returns a program with the number 0 everywhere.
func blank(rows, columns int) program {
	p := program{cost: repeated(columns, 0), right: repeated(rows, 0)}
	for range rows {
		p.rows = append(p.rows, repeated(columns, 0))
	}
	return p
}

// copied returns a copy of p.
func (p program) copied() program {
	q := blank(len(p.rows), len(p.cost))
	for k, list := range p.lists() {
		for i, v := range list {
			q.lists()[k][i].Set(v)
		}
	}
	return q
}

// lists returns the Cost, the Right and the rows.
func (p program) lists() [][]*big.Rat {
	return append([][]*big.Rat{p.cost, p.right}, p.rows...)
}

// nat returns the number v, which is not negative.
func nat(v *big.Int) api.Nat {
	var out api.Nat
	for rest := new(big.Int).Set(v); rest.Sign() > 0; rest.Rsh(rest, 32) {
		out = append(out, uint32(rest.Uint64()))
	}
	return out
}

// frac returns the fraction with the value v in lowest terms.
func frac(v *big.Rat) api.Frac {
	return api.Frac{Neg: v.Sign() < 0, Num: nat(new(big.Int).Abs(v.Num())), Den: nat(v.Denom())}
}

// fracs returns fractions in lowest terms.
func fracs(list []*big.Rat) []api.Frac {
	out := make([]api.Frac, len(list))
	for i, v := range list {
		out[i] = frac(v)
	}
	return out
}

// texts returns the fractions of a text.
func texts(text string) []api.Frac {
	return fracs(numbers(text))
}

// fracs returns p with fractions in lowest terms.
func (p program) fracs() api.Program {
	return p.with(fracs)
}

// disguised returns p with fractions in other forms.
func (p program) disguised(r *rand.Rand) api.Program {
	return p.with(func(list []*big.Rat) []api.Frac { return testfrac.Disguised(r.Intn, fracs(list)) })
}

// with returns p with the fractions that a function gives for each list.
func (p program) with(fractions func([]*big.Rat) []api.Frac) api.Program {
	out := api.Program{Cost: fractions(p.cost), Right: fractions(p.right)}
	for _, row := range p.rows {
		out.Rows = append(out.Rows, fractions(row))
	}
	return out
}

// isLowest reports whether x is a valid fraction in lowest terms.
func isLowest(x api.Frac) bool {
	v, ok := value(x)
	return ok && x.Neg == (v.Sign() < 0) && slices.Equal(x.Num, frac(v).Num) && slices.Equal(x.Den, frac(v).Den)
}

// numbersOf returns all numbers of s.
func numbersOf(s api.Solution) []api.Frac {
	return slices.Concat(s.X, s.Y, s.Ray, []api.Frac{s.Value})
}

// checkAnswer compares the result of Check with what it has to be, and with the model.
func checkAnswer(t *testing.T, name string, p api.Program, s api.Solution, want bool) {
	t.Helper()
	if model := accepted(p, s); model != want {
		t.Errorf("%s: the model says %v for %v and %v", name, model, p, s)
	}
	if got := simplex.Check(p, s); got != want {
		t.Errorf("%s: Check of %v and %v = %v", name, p, s, got)
	}
}

// solved returns the solution of p, and checks that it is accepted and in lowest terms.
func solved(t *testing.T, name string, p api.Program) api.Solution {
	t.Helper()
	s, err := simplex.Solve(p)
	if err != api.OK {
		t.Fatalf("%s: the error %d for %v", name, err, p)
	}
	checkAnswer(t, name, p, s, true)
	if slices.ContainsFunc(numbersOf(s), func(x api.Frac) bool { return !isLowest(x) }) {
		t.Errorf("%s: %v is not in lowest terms", name, s)
	}
	return s
}

// checkSolved checks the solution of p, in lowest terms and in another form, by its Kind and, for LPOptimal, its Value.
func checkSolved(t *testing.T, r *rand.Rand, name string, p program, kind int, least *big.Rat) {
	t.Helper()
	for _, q := range []api.Program{p.fracs(), p.disguised(r)} {
		s := solved(t, name, q)
		if got, _ := value(s.Value); s.Kind != kind || kind == api.LPOptimal && got.Cmp(least) != 0 {
			t.Errorf("%s: %v has the solution %v, want the Kind %d and the Value %v", name, p, s, kind, least)
		}
	}
}

// random returns a program of random numbers, many of them 0, with up to the given numbers of rows and columns. Often it has points.
func random(r *rand.Rand, rows, columns int, most int64) program {
	p := blank(1+r.Intn(rows), 1+r.Intn(columns))
	number := func(low int64) *big.Rat {
		if r.Intn(3) == 0 {
			return new(big.Rat)
		}
		return ratio(low+r.Int63n(most-low+1), 1+r.Int63n(2)*r.Int63n(3))
	}
	lists := p.lists()
	for k, list := range lists {
		if k == 1 && r.Intn(4) == 0 {
			continue
		}
		for _, v := range list {
			v.Set(number(-most))
		}
	}
	if r.Intn(2) == 0 {
		for _, v := range p.cost {
			v.Abs(v)
		}
	}
	if r.Intn(2) == 0 {
		x := repeated(len(p.cost), 0)
		for _, v := range x {
			v.Set(number(0))
		}
		for i, row := range p.rows {
			p.right[i] = inner(row, x)
		}
	}
	return p
}
