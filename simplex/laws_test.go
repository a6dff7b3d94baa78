package simplex_test

import (
	"math/big"
	"math/rand"
	"testing"

	"drydock/api"
	"drydock/simplex"
)

// every calls do with all lists of n of the numbers.
func every(n int, numbers []*big.Rat, do func([]*big.Rat)) {
	list := make([]*big.Rat, n)
	var fill func(int)
	fill = func(i int) {
		if i == n {
			do(list)
			return
		}
		for _, list[i] = range numbers {
			fill(i + 1)
		}
	}
	fill(0)
}

// P16.3: of all solutions with small numbers, all that are accepted have the Kind and the Value that Solve returns.
func TestAcceptedSolutionsAgree(t *testing.T) {
	r := rand.New(rand.NewSource(15))
	counts := map[int]int{}
	for range 60 {
		p := blank(1, 2)
		for _, v := range everything(p) {
			v.SetInt64(int64(r.Intn(4) - 1))
		}
		q, programs := p.fracs(), 0
		want := solved(t, "a small program", q)
		wanted, _ := value(want.Value)
		try := func(s api.Solution) {
			for _, v := range numbers("-2 -1 0 1/2 1 2") {
				s.Value = frac(v)
				if !simplex.Check(q, s) {
					continue
				}
				programs++
				if s.Kind != want.Kind || v.Cmp(wanted) != 0 {
					t.Errorf("%v has the solutions %v and %v", q, s, want)
				}
			}
		}
		every(2, numbers("0 1/2 1 2"), func(x []*big.Rat) {
			every(1, numbers("-1 0 1 2"), func(y []*big.Rat) { try(api.Solution{Kind: 1, X: fracs(x), Y: fracs(y)}) })
			every(2, numbers("0 1 2"), func(ray []*big.Rat) { try(api.Solution{Kind: 3, X: fracs(x), Ray: fracs(ray)}) })
		})
		every(1, numbers("-2 -1 0 1/2 1"), func(y []*big.Rat) { try(api.Solution{Kind: 2, Y: fracs(y)}) })
		if programs > 1 {
			counts[want.Kind]++
		}
	}
	if len(counts) < 3 {
		t.Errorf("programs with several solutions: %v", counts)
	}
}

// P16.3: no point with small numbers costs less than the Value; there is none if the solution says so; and along a Ray the cost falls below every bound.
func TestPoints(t *testing.T) {
	r := rand.New(rand.NewSource(16))
	points := map[int]int{}
	for range 400 {
		p := random(r, 2, 4, 2)
		s := solved(t, "a random program", p.fracs())
		v, _ := value(s.Value)
		every(len(p.cost), numbers("0 1/2 1 2 3"), func(x []*big.Rat) {
			if !p.satisfies(x, p.right) {
				return
			}
			points[s.Kind]++
			if s.Kind == api.LPInfeasible || s.Kind == api.LPOptimal && inner(p.cost, x).Cmp(v) < 0 {
				t.Errorf("%v with the solution %v has the point %v", p, s, x)
			}
		})
		if s.Kind == api.LPUnbounded {
			checkFalls(t, p, s)
		}
	}
	if points[api.LPOptimal] < 500 || points[api.LPUnbounded] < 500 {
		t.Errorf("the points %v", points)
	}
}

// checkFalls checks that there are points of p along the Ray of s with costs below some bounds.
func checkFalls(t *testing.T, p program, s api.Solution) {
	t.Helper()
	x, _ := values(s.X)
	ray, _ := values(s.Ray)
	for _, bound := range numbers("-1 -1000 -100000000000000000000000000") {
		// Of the way to the bound, one more is taken.
		steps := new(big.Rat).Sub(inner(p.cost, x), bound)
		steps.Quo(steps.Add(steps.Abs(steps), ratio(1, 1)), new(big.Rat).Neg(inner(p.cost, ray)))
		at := make([]*big.Rat, len(x))
		for j := range at {
			at[j] = new(big.Rat).Add(x[j], new(big.Rat).Mul(steps, ray[j]))
		}
		if !p.satisfies(at, p.right) || inner(p.cost, at).Cmp(bound) >= 0 {
			t.Errorf("%v with the solution %v: %v", p, s, at)
		}
	}
}

// sameResult reports an error if p has not the Kind and the Value of a solution.
func sameResult(t *testing.T, name string, p program, kind int, least *big.Rat) {
	t.Helper()
	s := solved(t, name, p.fracs())
	if v, _ := value(s.Value); s.Kind != kind || v.Cmp(least) != 0 {
		t.Errorf("%s: %v has the solution %v, want the Kind %d and the Value %v", name, p, s, kind, least)
	}
}

// P16.3: a row that is a sum of multiples of other rows changes nothing, nor does another order of rows and columns, nor a column of zeros.
func TestSameResults(t *testing.T) {
	r := rand.New(rand.NewSource(17))
	for range 400 {
		p := random(r, 4, 7, 2)
		s := solved(t, "a random program", p.fracs())
		v, _ := value(s.Value)
		sameResult(t, "another order", shuffled(r, p), s.Kind, v)
		q := p.copied()
		row, right := repeated(len(p.cost), 0), new(big.Rat)
		for i := range p.rows {
			factor := ratio(int64(r.Intn(5)-2), 1+r.Int63n(2))
			for j, x := range p.rows[i] {
				row[j].Add(row[j], new(big.Rat).Mul(factor, x))
			}
			right.Add(right, new(big.Rat).Mul(factor, p.right[i]))
		}
		q.rows, q.right = append(q.rows, row), append(q.right, right)
		sameResult(t, "one more row", q, s.Kind, v)
		sameResult(t, "one more row, in another place", shuffled(r, q), s.Kind, v)
		sameResult(t, "a column that costs", withColumn(p, ratio(1, 3), repeated(len(p.rows), 0)), s.Kind, v)
	}
}

// withColumn returns p with a further column.
func withColumn(p program, cost *big.Rat, column []*big.Rat) program {
	q := p.copied()
	q.cost = append(q.cost, cost)
	for i, x := range column {
		q.rows[i] = append(q.rows[i], x)
	}
	return q
}

// P16.3: a further column does not raise the value, and a program with points keeps them.
func TestFurtherColumn(t *testing.T) {
	r := rand.New(rand.NewSource(18))
	lower, same, possible, falling := 0, 0, 0, 0
	for range 1000 {
		p := random(r, 4, 6, 2)
		before := solved(t, "a random program", p.fracs())
		column := repeated(len(p.rows), 0)
		for _, v := range column {
			v.SetInt64(int64(r.Intn(5) - 2))
		}
		after := solved(t, "one more column", withColumn(p, ratio(int64(r.Intn(6)-1), 1), column).fracs())
		v, _ := value(before.Value)
		w, _ := value(after.Value)
		switch {
		case before.Kind == api.LPInfeasible:
			if after.Kind != api.LPInfeasible {
				possible++
			}
		case after.Kind == api.LPInfeasible || before.Kind == api.LPUnbounded && after.Kind != api.LPUnbounded:
			t.Errorf("%v: %v, and with a further column %v", p, before, after)
		case after.Kind == api.LPUnbounded:
			falling++
		case w.Cmp(v) > 0:
			t.Errorf("%v: %v, and with a further column %v", p, before, after)
		case w.Cmp(v) < 0:
			lower++
		default:
			same++
		}
	}
	if min(lower, same, possible, falling) < 15 {
		t.Errorf("%d lower, %d the same, %d with points now, %d unbounded", lower, same, possible, falling)
	}
}

// P16.3: the value is multiplied with Cost and with Right, by numbers greater than 0; Cost 0 or Right 0 make it 0; rows may be multiplied by any numbers but 0.
func TestMultiples(t *testing.T) {
	r := rand.New(rand.NewSource(19))
	for range 200 {
		p := random(r, 4, 6, 2)
		s := solved(t, "a random program", p.fracs())
		v, _ := value(s.Value)
		for _, factor := range numbers("2 1/3 7/5 100000000000000000000 1/100000000000000000000") {
			times := new(big.Rat).Mul(v, factor)
			sameResult(t, "a multiple of Cost", multiplied(p, factor, 0), s.Kind, times)
			sameResult(t, "a multiple of Right", multiplied(p, factor, 1), s.Kind, times)
			i := r.Intn(len(p.rows))
			q := multiplied(p, factor, 2+i)
			q.right[i].Mul(q.right[i], factor)
			sameResult(t, "a multiple of a row", q, s.Kind, v)
			opposite := multiplied(q, ratio(-1, 1), 2+i)
			opposite.right[i].Neg(q.right[i])
			sameResult(t, "the opposite of a row", opposite, s.Kind, v)
		}
		kind := api.LPOptimal
		if s.Kind == api.LPInfeasible {
			kind = s.Kind
		}
		sameResult(t, "Cost 0", multiplied(p, new(big.Rat), 0), kind, new(big.Rat))
		if s := solved(t, "Right 0", multiplied(p, new(big.Rat), 1).fracs()); s.Kind == api.LPInfeasible || len(s.Value.Num) > 0 {
			t.Errorf("%v with Right 0 has the solution %v", p, s)
		}
	}
}

// multiplied returns p with one of its lists multiplied.
func multiplied(p program, factor *big.Rat, list int) program {
	q := p.copied()
	for _, v := range q.lists()[list] {
		v.Mul(v, factor)
	}
	return q
}

// P16.3: a program and its dual, the greatest sum of Y times Right, have the same value.
func TestDuals(t *testing.T) {
	r := rand.New(rand.NewSource(20))
	optimal := 0
	for range 300 {
		p := random(r, 3, 4, 2)
		m, n := len(p.rows), len(p.cost)
		dual := blank(n, 2*m+n)
		for j := range n {
			for i := range m {
				dual.rows[j][i].Set(p.rows[i][j])
				dual.rows[j][m+i].Neg(p.rows[i][j])
			}
			dual.rows[j][2*m+j].SetInt64(1)
			dual.right[j].Set(p.cost[j])
		}
		for i, v := range p.right {
			dual.cost[i].Neg(v)
			dual.cost[m+i].Set(v)
		}
		s, d := solved(t, "a program", p.fracs()), solved(t, "a dual", dual.fracs())
		v, _ := value(s.Value)
		w, _ := value(d.Value)
		switch {
		case s.Kind == api.LPOptimal && (d.Kind != api.LPOptimal || v.Cmp(w.Neg(w)) != 0), s.Kind == api.LPUnbounded && d.Kind != api.LPInfeasible, s.Kind == api.LPInfeasible && d.Kind == api.LPOptimal:
			t.Errorf("%v has the solution %v, and its dual %v", p, s, d)
		case s.Kind == api.LPOptimal:
			optimal++
		}
	}
	if optimal < 100 {
		t.Errorf("%d programs have a least value", optimal)
	}
}
