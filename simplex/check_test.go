package simplex_test

import (
	"fmt"
	"math"
	"math/big"
	"math/rand"
	"slices"
	"testing"

	"drydock/api"
	"drydock/simplex"
	"drydock/testfrac"
)

// sample is a program with a solution. In the strict ones, no list can be changed in one place without being wrong.
type sample struct {
	name     string
	program  program
	solution api.Solution
	strict   bool
}

func samples() []sample {
	zero := frac(new(big.Rat))
	return []sample{
		{"an optimum", parse("-1 -2 0 0; 1 1 1 0 = 4; 1 3 0 1 = 6"), api.Solution{Kind: api.LPOptimal, X: texts("3 1 0 0"), Y: texts("-1/2 -1/2"), Value: frac(ratio(-5, 1))}, true},
		{"another optimum", parse("1 1; 2 -1 = 1; -1 1 = 3"), api.Solution{Kind: api.LPOptimal, X: texts("4 7"), Y: texts("2 3"), Value: frac(ratio(11, 1))}, true},
		{"an optimum of 0", parse("1 0; 1 -1 = 0"), api.Solution{Kind: api.LPOptimal, X: texts("0 0"), Y: texts("1/2"), Value: zero}, false},
		{"no point", parse("1 1; 1 1 = -1"), api.Solution{Kind: api.LPInfeasible, Y: texts("-3"), Value: zero}, false},
		{"no point because of two rows", parse("-1 0; 1 1 = 1; 2 2 = 3"), api.Solution{Kind: api.LPInfeasible, Y: texts("-2 1"), Value: zero}, false},
		{"a row of zeros", parse("0 0; 0 0 = 5"), api.Solution{Kind: api.LPInfeasible, Y: texts("1/7"), Value: zero}, false},
		{"a ray", parse("-1 0; 1 -1 = 2"), api.Solution{Kind: api.LPUnbounded, X: texts("2 0"), Ray: texts("1 1"), Value: zero}, true},
		{"a ray with a column of zeros", parse("1 -2 1; 1 0 1 = 5"), api.Solution{Kind: api.LPUnbounded, X: texts("2 9 3"), Ray: texts("0 1/3 0"), Value: zero}, false},
	}
}

// copied returns a copy of s that shares no list with it.
func copied(s api.Solution) api.Solution {
	s.X, s.Y, s.Ray = slices.Clone(s.X), slices.Clone(s.Y), slices.Clone(s.Ray)
	return s
}

// listsOf returns the lists of s.
func listsOf(s *api.Solution) []*[]api.Frac {
	return []*[]api.Frac{&s.X, &s.Y, &s.Ray}
}

// P16.2: the solutions themselves, in all forms of their fractions.
func TestCheckAccepts(t *testing.T) {
	r := rand.New(rand.NewSource(12))
	for _, c := range samples() {
		checkAnswer(t, c.name, c.program.fracs(), c.solution, true)
		for range 50 {
			s := c.solution
			s.X, s.Y, s.Ray = testfrac.Disguised(r.Intn, s.X), testfrac.Disguised(r.Intn, s.Y), testfrac.Disguised(r.Intn, s.Ray)
			s.Value = testfrac.Disguised(r.Intn, []api.Frac{s.Value})[0]
			checkAnswer(t, c.name, c.program.disguised(r), s, true)
		}
	}
}

// P16.2: every Kind but the right one, also with the lists that it asks for.
func TestCheckKind(t *testing.T) {
	for _, c := range samples() {
		p := c.program.fracs()
		for _, kind := range []int{math.MinInt, -1, 0, 1, 2, 3, 4, 5, 1<<32 + 1, math.MaxInt} {
			s := c.solution
			s.Kind = kind
			checkAnswer(t, fmt.Sprint(c.name, " with the Kind ", kind), p, s, kind == c.solution.Kind)
		}
		for _, other := range samples() {
			if s := other.solution; s.Kind != c.solution.Kind && len(s.X) == len(c.solution.X) {
				checkAnswer(t, c.name+" with the solution of "+other.name, p, s, false)
			}
		}
	}
}

// P16.2: lists of every other length, empty ones, and lists that have to be empty.
func TestCheckLengths(t *testing.T) {
	zero := frac(new(big.Rat))
	for _, c := range samples() {
		p, given := c.program.fracs(), c.solution
		for k, list := range listsOf(&given) {
			for _, n := range []int{0, 1, 2, 3, 4, 5, api.MaxRows, api.MaxColumns, api.MaxColumns + 1} {
				s := copied(c.solution)
				changed := listsOf(&s)[k]
				*changed = (*changed)[:min(n, len(*changed))]
				for len(*changed) < n {
					*changed = append(*changed, zero)
				}
				checkAnswer(t, fmt.Sprint(c.name, " with ", n, " numbers in list ", k), p, s, n == len(*list))
			}
		}
		s := copied(c.solution)
		s.X, s.Y = s.Y, s.X
		checkAnswer(t, c.name+" with X and Y exchanged", p, s, false)
		s = copied(c.solution)
		s.X, s.Ray = s.Ray, s.X
		checkAnswer(t, c.name+" with X and Ray exchanged", p, s, accepted(p, s))
	}
}

// P16.2: one number changed, in every place.
func TestCheckNumbers(t *testing.T) {
	refused, kept := 0, 0
	for _, c := range samples() {
		p := c.program.fracs()
		for k := range 3 {
			for i, x := range *listsOf(&c.solution)[k] {
				v, _ := value(x)
				for _, change := range numbers("1 -1 1/1000 -1/1000 5 -5 100000000000000000000 -100000000000000000000") {
					s := copied(c.solution)
					(*listsOf(&s)[k])[i] = frac(new(big.Rat).Add(v, change))
					want := accepted(p, s)
					if want {
						kept++
					} else {
						refused++
					}
					if want && c.strict {
						t.Fatalf("%s is not strict: %v", c.name, s)
					}
					checkAnswer(t, c.name+" with a number changed", p, s, want)
				}
			}
		}
	}
	if refused < 150 || kept < 20 {
		t.Errorf("%d refused, %d accepted", refused, kept)
	}
}

// P16.2: another Value.
func TestCheckValue(t *testing.T) {
	for _, c := range samples() {
		v, _ := value(c.solution.Value)
		for _, change := range numbers("1 -1 1/100000000000000000000 -7/3 5 -5 10 -22") {
			s := c.solution
			s.Value = frac(new(big.Rat).Add(v, change))
			checkAnswer(t, c.name+" with another Value", c.program.fracs(), s, false)
		}
	}
	for _, c := range []struct{ text, x, y, value string }{
		{"1; 1 = 2", "2", "1", "3"}, {"1; 1 = 2", "2", "3/2", "2"}, {"1; 1 = 2", "2", "1/2", "2"}, {"1; 1 = 2", "2", "1/2", "1"}, {"1 2; 1 1 = 2", "1 1", "1", "3"}, {"1 2; 1 1 = 2", "1 1", "1", "2"},
	} {
		s := api.Solution{Kind: api.LPOptimal, X: texts(c.x), Y: texts(c.y), Value: texts(c.value)[0]}
		checkAnswer(t, "a Value that only one side has", parse(c.text).fracs(), s, false)
	}
}

// P16.2: each condition violated by itself.
func TestCheckConditions(t *testing.T) {
	for _, c := range []struct {
		name, text string
		kind       int
		x, y, ray  string
		want       bool
	}{
		{"X is no point, by little", "0 0; 1 1 = 1", api.LPOptimal, "1/2 499999/1000000", "0", "", false},
		{"X violates the last row", "0 0; 1 1 = 1; 1 0 = 1", api.LPOptimal, "1/2 1/2", "0 0", "", false},
		{"X is a point", "0 0; 1 1 = 1; 1 0 = 1", api.LPOptimal, "1 0", "0 0", "", true},
		{"X is negative", "0 0; 1 -1 = 0", api.LPOptimal, "-1 -1", "0", "", false},
		{"X is negative at the end", "0 0 0; 1 1 1 = 0", api.LPOptimal, "1 1 -2", "0", "", false},
		{"X is negative at the beginning", "0 0 0; 1 1 1 = 0", api.LPOptimal, "-2 1 1", "0", "", false},
		{"Y is at the Cost", "2; 1 = 0", api.LPOptimal, "0", "2", "", true},
		{"Y is above the Cost", "2; 1 = 0", api.LPOptimal, "0", "2000001/1000000", "", false},
		{"Y is far below the Cost", "2; 1 = 0", api.LPOptimal, "0", "-1000", "", true},
		{"Y is above the last Cost", "2 2 1; 1 1 1 = 0", api.LPOptimal, "0 0 0", "2", "", false},
		{"Y is above the Cost by two rows", "2 5; 1 1 = 0; 1 1 = 0", api.LPOptimal, "0 0", "1 1001/1000", "", false},
		{"Y is at the Cost by two rows", "2 5; 1 1 = 0; 1 1 = 0", api.LPOptimal, "0 0", "-3 5", "", true},
		{"Y has a column above 0", "5 5; 1 -1 = 1; 0 0 = 1", api.LPInfeasible, "", "1/1000 1", "", false},
		{"Y has a column below 0", "5 5; 1 1 = 1; 0 0 = 1", api.LPInfeasible, "", "-1/1000 1", "", true},
		{"Y has no column above 0", "5 5; 1 -1 = 1; 0 0 = 1", api.LPInfeasible, "", "0 1", "", true},
		{"Y has Cost above 0 only", "5 5; 1 1 = 1", api.LPInfeasible, "", "1", "", false},
		{"Y serves 0", "-5 -5; 1 1 = 1; 1 1 = 2", api.LPInfeasible, "", "-2 1", "", false},
		{"Y serves less than 0", "-5 -5; 1 1 = 1; 1 1 = 2", api.LPInfeasible, "", "-3 1", "", false},
		{"Y serves more than 0", "-5 -5; 1 1 = 1; 1 1 = 2", api.LPInfeasible, "", "-3/2 1", "", true},
		{"Ray is negative", "1 0; 1 -1 = 0", api.LPUnbounded, "0 0", "", "-1 -1", false},
		{"Ray is 0", "-1 0; 1 -1 = 0", api.LPUnbounded, "0 0", "", "0 0", false},
		{"Ray is free", "0 0; 1 -1 = 0", api.LPUnbounded, "0 0", "", "1 1", false},
		{"Ray costs", "1 0; 1 -1 = 0", api.LPUnbounded, "0 0", "", "1 1", false},
		{"Ray is cheap", "-1/1000 0; 1 -1 = 0", api.LPUnbounded, "0 0", "", "1 1", true},
		{"Ray leaves the last row", "-1 0; 1 -1 = 0; 1 0 = 0", api.LPUnbounded, "0 0", "", "1 1", false},
		{"Ray ends at Right", "-1 0; 1 1 = 2", api.LPUnbounded, "1 1", "", "1 1", false},
		{"Ray without a point", "-1 0; 1 -1 = 0", api.LPUnbounded, "1 0", "", "1 1", false},
		{"Ray from a negative point", "-1 0; 1 -1 = 0", api.LPUnbounded, "-1 -1", "", "1 1", false},
		{"Ray from far away", "-1 0; 1 -1 = 0", api.LPUnbounded, "1000 1000", "", "1/1000 1/1000", true},
		{"Y of a program with points", "-1 0; 1 -1 = 0", api.LPInfeasible, "", "1", "", false},
	} {
		s := api.Solution{Kind: c.kind, X: texts(c.x), Y: texts(c.y), Ray: texts(c.ray), Value: frac(new(big.Rat))}
		checkAnswer(t, c.name, parse(c.text).fracs(), s, c.want)
	}
}

// P16.2: fractions that are not valid, in every place.
func TestCheckInvalidFractions(t *testing.T) {
	for _, c := range samples() {
		p := c.program.fracs()
		for _, x := range testfrac.Invalid() {
			for k := range 3 {
				for i := range *listsOf(&c.solution)[k] {
					s := copied(c.solution)
					(*listsOf(&s)[k])[i] = x
					checkAnswer(t, c.name+" with a fraction that is not valid", p, s, false)
				}
			}
			s := c.solution
			s.Value = x
			checkAnswer(t, c.name+" with a Value that is not valid", p, s, false)
		}
	}
}

// P16.1 and P16.2: no solution of a program that is not valid is accepted.
func TestCheckInvalidPrograms(t *testing.T) {
	for _, c := range samples() {
		for _, x := range testfrac.Invalid() {
			for k := range len(c.program.rows) + 2 {
				p := c.program.fracs()
				list := append([][]api.Frac{p.Cost, p.Right}, p.Rows...)[k]
				list[len(list)-1] = x
				checkAnswer(t, c.name+" of a program that is not valid", p, c.solution, false)
			}
		}
		p := c.program.fracs()
		for name, q := range map[string]api.Program{
			"nothing": {}, "no Cost": {Rows: p.Rows, Right: p.Right}, "no Right": {Cost: p.Cost, Rows: p.Rows}, "no rows": {Cost: p.Cost, Right: p.Right}, "only Cost": {Cost: p.Cost},
			"a short row": {Cost: p.Cost, Rows: append([][]api.Frac{p.Rows[0][1:]}, p.Rows[1:]...), Right: p.Right}, "more rows": {Cost: p.Cost, Rows: append(p.Rows, p.Rows[0]), Right: p.Right},
		} {
			checkAnswer(t, c.name+" and "+name, q, c.solution, false)
			checkAnswer(t, name, q, api.Solution{}, false)
		}
	}
	heavy := parse("0 0; 1 -1 = 0")
	for digits := api.MaxProgram - 1; digits <= api.MaxProgram+1; digits++ {
		heavy.cost[0].Set(power(digits - 3)) // the row has the weight 2
		s := api.Solution{Kind: api.LPOptimal, X: texts("0 0"), Y: texts("0"), Value: frac(new(big.Rat))}
		checkAnswer(t, fmt.Sprint("the weight ", digits), heavy.fracs(), s, digits <= api.MaxProgram)
	}
}

// with returns s with the number v in the given places of one of its lists.
func with(s api.Solution, k int, v api.Frac, places ...int) api.Solution {
	s = copied(s)
	for _, i := range places {
		(*listsOf(&s)[k])[i] = v
	}
	return s
}

// loose returns programs with solutions that may be multiplied with any number greater than 0, in one of their lists, in the places 0 and 1 and, apart from them, in the places 2 and 3.
func loose() []struct {
	name string
	p    api.Program
	s    api.Solution
	list int
} {
	zero := frac(new(big.Rat))
	free, falling, empty := parse("0 0 0 0; 1 -1 0 0 = 0; 0 0 1 -1 = 0").fracs(), parse("-1 0 0 -1; 1 -1 0 0 = 0; 0 0 1 -1 = 0").fracs(), parse("0; 0 = 1; 0 = 1; 0 = 1; 0 = 1").fracs()
	still := parse("0; 0 = 0; 0 = 0; 0 = 0; 0 = 0").fracs()
	return []struct {
		name string
		p    api.Program
		s    api.Solution
		list int
	}{
		{"X", free, api.Solution{Kind: api.LPOptimal, X: texts("1 1 1 1"), Y: texts("0 0"), Value: zero}, 0},
		{"X of a ray", falling, api.Solution{Kind: api.LPUnbounded, X: texts("1 1 1 1"), Ray: texts("1 1 1 1"), Value: zero}, 0},
		{"Ray", falling, api.Solution{Kind: api.LPUnbounded, X: texts("0 0 0 0"), Ray: texts("1 1 1 1"), Value: zero}, 2},
		{"Y without a point", empty, api.Solution{Kind: api.LPInfeasible, Y: texts("1 1 1 1"), Value: zero}, 1},
		{"Y", still, api.Solution{Kind: api.LPOptimal, X: texts("1"), Y: texts("1 1 1 1"), Value: zero}, 1},
	}
}

// P16.2: numbers of 32 and 33 limbs in lowest terms, and with more limbs that can be reduced.
func TestCheckLongNumbers(t *testing.T) {
	const edge = 32 * 32 // binary digits of 32 limbs
	most := new(big.Rat).Sub(power(edge), ratio(1, 1))
	for _, c := range loose() {
		for _, v := range []struct {
			v    *big.Rat
			want bool
		}{
			{power(edge - 1), true}, {most, true}, {power(edge), false}, {new(big.Rat).Add(power(edge), ratio(1, 1)), false}, {power(2 * edge), false},
			{power(1 - edge), true}, {new(big.Rat).Inv(most), true}, {power(-edge), false}, {new(big.Rat).Inv(new(big.Rat).Add(power(edge), ratio(1, 1))), false},
			{new(big.Rat).SetFrac(most.Num(), power(edge-1).Num()), true}, {new(big.Rat).SetFrac(most.Num(), power(edge).Num()), false}, {new(big.Rat).SetFrac(power(edge).Num(), most.Num()), false},
		} {
			for _, places := range [][]int{{0, 1}, {2, 3}, {0, 1, 2, 3}} {
				x := frac(v.v)
				s := with(c.s, c.list, x, places...)
				checkAnswer(t, fmt.Sprint(c.name, " with ", len(x.Num), " limbs over ", len(x.Den)), c.p, s, v.want)
				for _, form := range testfrac.Forms(x) {
					checkAnswer(t, fmt.Sprint(c.name, " with the form ", len(form.Num), " limbs over ", len(form.Den)), c.p, with(s, c.list, form, places...), v.want)
				}
			}
		}
	}
	for _, c := range samples() {
		for _, v := range []*big.Rat{power(edge - 1), power(edge), power(-edge), power(4 * edge)} {
			s := c.solution
			s.Value = frac(v)
			checkAnswer(t, c.name+" with a long Value", c.program.fracs(), s, false)
		}
	}
}

// P16.2: common denominators of 32 and 33 limbs, of numbers that are much shorter, in one list and in two.
func TestCheckCommonDenominators(t *testing.T) {
	const edge = 32 * 32
	over := func(v *big.Rat) api.Frac { return frac(new(big.Rat).Inv(v)) }
	plus := func(n int) *big.Rat { return new(big.Rat).Add(power(n), ratio(1, 1)) }
	for _, c := range loose() {
		for _, v := range []struct {
			a, b *big.Rat
			want bool
		}{
			{power(512), plus(511), true}, {power(512), plus(512), false}, {power(1), plus(edge - 2), true}, {power(1), plus(edge - 1), false}, {plus(edge - 2), power(2), false},
			{power(edge - 1), power(edge - 1), true}, {power(edge - 1), power(edge - 2), true}, {power(edge - 1), ratio(3, 1), false}, {power(edge - 2), ratio(3, 1), true},
			{new(big.Rat).Mul(power(500), ratio(15, 1)), new(big.Rat).Mul(plus(512), ratio(15, 1)), true}, {new(big.Rat).Mul(power(511), ratio(15, 1)), new(big.Rat).Mul(plus(512), ratio(15, 1)), false},
		} {
			s := with(with(c.s, c.list, over(v.a), 0, 1), c.list, over(v.b), 2, 3)
			checkAnswer(t, c.name+" with two denominators", c.p, s, v.want)
			swapped := with(with(c.s, c.list, over(v.b), 0, 1), c.list, over(v.a), 2, 3)
			checkAnswer(t, c.name+" with two denominators the other way", c.p, swapped, v.want)
		}
	}
	// Each list has a common denominator of its own.
	c := loose()[1]
	s := with(with(c.s, 0, over(power(edge-1)), 0, 1, 2, 3), 2, over(plus(edge-1)), 0, 1, 2, 3)
	checkAnswer(t, "X and Ray with denominators that share nothing", c.p, s, true)
	long := parse("0 0 0 0 0 0; 1 -1 0 0 0 0 = 0; 0 0 1 -1 0 0 = 0; 0 0 0 0 1 -1 = 0").fracs()
	for last, want := range map[int64]bool{1: true, 3: true, 7: true, 11: false} {
		x := []api.Frac{over(power(400)), over(power(400)), over(plus(310)), over(plus(310)), over(new(big.Rat).Mul(plus(311), ratio(last, 1))), over(new(big.Rat).Mul(plus(311), ratio(last, 1)))}
		s := api.Solution{Kind: api.LPOptimal, X: x, Y: texts("0 0 0"), Value: frac(new(big.Rat))}
		checkAnswer(t, "three denominators", long, s, want)
	}
}

// P16.2: sums with numbers of 32 limbs, at the greatest weight: no step of Check may be too large for fractions.
func TestCheckLongSums(t *testing.T) {
	r := rand.New(rand.NewSource(13))
	random := func(digits int) *big.Int {
		return new(big.Int).SetBit(new(big.Int).Rand(r, power(digits-1).Num()), digits-1, 1)
	}
	for range 200 {
		a := new(big.Rat).SetFrac(random(200), new(big.Int).SetBit(random(200), 0, 1))
		p := blank(1, 2)
		p.rows[0][0].Set(a)
		p.rows[0][1].Neg(a)
		p.cost[0].SetInt64(1)
		x := frac(new(big.Rat).SetFrac(random(1024), random(1024)))
		s := api.Solution{Kind: api.LPUnbounded, X: []api.Frac{x, x}, Ray: []api.Frac{x, x}, Value: frac(new(big.Rat))}
		checkAnswer(t, "a ray that costs", p.fracs(), s, false)
		p.cost[0].SetInt64(-1)
		checkAnswer(t, "a long ray", p.fracs(), s, true)
		other := frac(new(big.Rat).SetFrac(random(1024), random(1024)))
		checkAnswer(t, "no ray", p.fracs(), with(s, 2, other, 0), false)
		checkAnswer(t, "no point", p.fracs(), with(s, 0, other, 1), false)
	}
	wide := blank(1, api.MaxColumns)
	for j := range api.MaxColumns {
		wide.rows[0][j].SetInt64(int64(1 - j%2*2))
		wide.cost[j].SetInt64(int64(j%2*2 - 1))
	}
	den := random(1024)
	den.SetBit(den, 0, 1)
	x := make([]api.Frac, api.MaxColumns)
	for j := range x {
		if j%2 == 0 {
			x[j] = frac(new(big.Rat).SetFrac(random(1024), den))
		} else {
			x[j] = x[j-1]
		}
	}
	s := api.Solution{Kind: api.LPOptimal, X: x, Y: texts("-1"), Value: frac(new(big.Rat))}
	checkAnswer(t, "many long numbers", wide.fracs(), s, true)
	s.X = slices.Clone(x)
	s.X[0], s.X[2] = s.X[2], s.X[0]
	checkAnswer(t, "many long numbers in another order", wide.fracs(), s, true)
	s.X[0] = s.X[4]
	checkAnswer(t, "many long numbers of which one is wrong", wide.fracs(), s, false)
}

// P16.2: what Solve returns for random programs, with one thing changed, compared with the model.
func TestCheckChangedSolutions(t *testing.T) {
	r := rand.New(rand.NewSource(14))
	counts := map[bool]int{}
	for range 1500 {
		p := random(r, 4, 6, 3).fracs()
		s, _ := simplex.Solve(p)
		for range 6 {
			q, changed := p, copied(s)
			switch list := *listsOf(&changed)[r.Intn(3)]; {
			case r.Intn(8) == 0:
				changed.Kind = 1 + r.Intn(3)
			case r.Intn(8) == 0:
				changed.Value = frac(ratio(int64(r.Intn(5)-2), 1))
			case r.Intn(8) == 0:
				q = random(r, 4, 6, 3).fracs()
			case len(list) > 0:
				v, _ := value(list[r.Intn(len(list))])
				list[r.Intn(len(list))] = frac(v.Add(v, ratio(int64(r.Intn(3)-1), 1+r.Int63n(2))))
			}
			want := accepted(q, changed)
			counts[want]++
			checkAnswer(t, "a changed solution", q, changed, want)
		}
	}
	if counts[true] < 1000 || counts[false] < 1000 {
		t.Errorf("%d accepted, %d not", counts[true], counts[false])
	}
}
