package simplex_test

import (
	"fmt"
	"math/big"
	"math/rand"
	"testing"

	"drydock/api"
)

// P16.1: programs for which well-known rules come back to a basis again and again, because amounts of 0 tie.
func TestTiesThatCycle(t *testing.T) {
	r := rand.New(rand.NewSource(6))
	for _, c := range []struct{ text, value string }{
		{"0 0 0 -3/4 20 -1/2 6; 1 0 0 1/4 -8 -1 9 = 0; 0 1 0 1/2 -12 -1/2 3 = 0; 0 0 1 0 0 1 0 = 1", "-5/4"},
		{"0 0 0 -3/4 150 -1/50 6; 1 0 0 1/4 -60 -1/25 9 = 0; 0 1 0 1/2 -90 -1/50 3 = 0; 0 0 1 0 0 1 0 = 1", "-1/20"},
		{"0 0 0 -2 -3 1 12; 1 0 0 -2 -9 1 9 = 0; 0 1 0 1/3 1 -1/3 -2 = 0; 0 0 1 2 3 -1 -12 = 2", "-2"},
		{"-10 57 9 24 0 0 0; 1/2 -11/2 -5/2 9 1 0 0 = 0; 1/2 -3/2 -1/2 1 0 1 0 = 0; 1 0 0 0 0 0 1 = 1", "-1"},
		{"0 0 -2/5 -2/5 9/5; 1 0 3/5 -32/5 24/5 = 0; 0 1 1/5 -9/5 3/5 = 0", ""},
		{"0 0 -1 7 1 2; 1 0 1/2 -11/2 -5/2 9 = 0; 0 1 1/2 -3/2 -1/2 1 = 0", ""},
		{"-1 -2 0 0 0; 1 1 1 0 0 = 0; 1 -1 0 1 0 = 0; -1 1 0 0 1 = 0", "0"},
	} {
		p := parse(c.text)
		kind, least := p.least()
		if c.value != "" && (kind != api.LPOptimal || least.Cmp(numbers(c.value)[0]) != 0) {
			t.Fatalf("the model says %d, %v for %s", kind, least, c.text)
		}
		for range 60 {
			checkSolved(t, r, "a program with ties", p, kind, least)
			p = shuffled(r, p)
		}
	}
}

// shuffled returns p with its rows and its columns in another order.
func shuffled(r *rand.Rand, p program) program {
	q, rows, columns := p.copied(), r.Perm(len(p.rows)), r.Perm(len(p.cost))
	for j, to := range columns {
		q.cost[to] = p.cost[j]
		for i, row := range p.rows {
			q.rows[rows[i]][to] = row[j]
			q.right[rows[i]] = p.right[i]
		}
	}
	return q
}

// assignment returns the program of n things that are given to n others, at random costs.
func assignment(r *rand.Rand, n int, most int64) program {
	p := blank(2*n, n*n)
	for i := range n {
		for j := range n {
			p.rows[i][i*n+j].SetInt64(1)
			p.rows[n+j][i*n+j].SetInt64(1)
			p.cost[i*n+j].SetInt64(r.Int63n(most))
		}
		p.right[i].SetInt64(1)
		p.right[n+i].SetInt64(1)
	}
	return p
}

// P16.1: ties between many amounts, with rows that are sums of others: assignments (with a row too many), and programs whose Right is 0.
func TestManyTies(t *testing.T) {
	r := rand.New(rand.NewSource(7))
	for n := 1; n <= 3; n++ {
		for range 10 {
			p := assignment(r, n, 3)
			kind, least := p.least()
			checkSolved(t, r, "an assignment", p, kind, least)
		}
	}
	for n := 4; n <= api.MaxRows/2; n += 3 {
		for _, most := range []int64{1, 2, 3} {
			if s := solved(t, "a large assignment", shuffled(r, assignment(r, n, most)).fracs()); s.Kind != api.LPOptimal {
				t.Errorf("an assignment has a solution of Kind %d", s.Kind)
			}
		}
	}
	kinds := map[int]int{}
	for range 100 {
		p := random(r, 10, 16, 1)
		p.right = repeated(len(p.rows), 0)
		s := solved(t, "a program with Right 0", p.fracs())
		if v, _ := value(s.Value); v.Sign() != 0 {
			t.Errorf("with Right 0 the Value is %v", v)
		}
		kinds[s.Kind]++
	}
	if kinds[api.LPInfeasible] > 0 || kinds[api.LPOptimal] < 10 || kinds[api.LPUnbounded] < 10 {
		t.Errorf("the kinds %v", kinds)
	}
}

// P16.1: rows and columns that occur often, and rows and columns of zeros, up to the greatest numbers of both.
func TestRepeatedRowsAndColumns(t *testing.T) {
	r := rand.New(rand.NewSource(8))
	for range 40 {
		p := random(r, 3, 5, 1)
		q := blank(api.MaxRows, api.MaxColumns)
		for i := range q.rows {
			q.right[i].Set(p.right[i%len(p.rows)])
		}
		for j := range q.cost {
			from := r.Intn(8 * len(p.cost))
			if j < len(p.cost) {
				from = j
			}
			if from >= len(p.cost) {
				continue
			}
			q.cost[j].Set(p.cost[from])
			for i := range q.rows {
				q.rows[i][j].Set(p.rows[i%len(p.rows)][from])
			}
		}
		if weight(everything(q)) > api.MaxProgram {
			q = blank(len(p.rows)+2, len(p.cost)+2)
			for i, row := range p.rows {
				q.right[i+1].Set(p.right[i])
				for j, v := range row {
					q.rows[i+1][j+1].Set(v)
					q.cost[j+1].Set(p.cost[j])
				}
			}
		}
		kind, least := p.least()
		checkSolved(t, r, "a program with more rows and columns", q, kind, least)
	}
}

// bounds returns the program to find the greatest of n numbers of which each lies between a share of the one before and 1 minus that.
func bounds(n int, share *big.Rat) program {
	p := blank(2*n, 3*n)
	for i := range n {
		for k, sign := range []int64{-1, 1} {
			row := p.rows[2*i+k]
			row[i].SetInt64(1)
			row[n+2*i+k].SetInt64(sign)
			if i > 0 {
				row[i-1].Mul(share, ratio(sign, 1))
			}
		}
		p.right[2*i+1].SetInt64(1)
	}
	p.cost[n-1].SetInt64(-1)
	return p
}

// growing returns the program of n rows in which each number counts twice a power of base for all rows behind it.
func growing(n int, base int64) program {
	p := blank(n, 2*n)
	powerOf := func(n int) *big.Rat {
		return new(big.Rat).SetInt(new(big.Int).Exp(big.NewInt(base), big.NewInt(int64(n)), nil))
	}
	for i, row := range p.rows {
		for j := range i {
			row[j].Mul(powerOf(i-j), ratio(2, 1))
		}
		row[i].SetInt64(1)
		row[n+i].SetInt64(1)
		p.right[i].Set(powerOf(2 * i))
		p.cost[i].Neg(powerOf(n - 1 - i))
	}
	return p
}

// P16.1: programs that lead well-known rules past all their corners.
func TestManyCorners(t *testing.T) {
	r := rand.New(rand.NewSource(9))
	for n := 1; n <= api.MaxRows/2; n++ {
		for _, share := range []*big.Rat{ratio(1, 3), ratio(1, 4)} {
			p := bounds(n, share)
			for range 3 {
				checkSolved(t, r, "a program with many corners", p, api.LPOptimal, ratio(-1, 1))
				p = shuffled(r, p)
			}
		}
	}
	for n := 1; n <= 10; n++ {
		p := growing(n, 2)
		want := new(big.Rat).Neg(p.right[n-1]) // all of the last row, and nothing of the others
		for range 10 {
			checkSolved(t, r, "a program with growing numbers", p, api.LPOptimal, want)
			p = shuffled(r, p)
		}
	}
}

// heavy returns a program of the greatest weight: numbers of up to the given digits in a share of its places, Right a sum of columns if it has to have points, and the rest of the weight in Cost.
func heavy(t *testing.T, r *rand.Rand, rows, columns, digits int, share float64, points bool) program {
	t.Helper()
	p := blank(rows, columns)
	number := func() *big.Rat {
		v := new(big.Rat).SetInt(new(big.Int).Rand(r, power(digits).Num()))
		if r.Intn(4) == 0 {
			v.Quo(v, ratio(1+r.Int63n(5), 1))
		}
		return v.Mul(v, ratio(2*r.Int63n(2)-1, 1))
	}
	left := int(share * api.MaxProgram)
	for range 4 * rows * columns {
		if v := p.rows[r.Intn(rows)][r.Intn(columns)]; left > 0 && v.Sign() == 0 {
			left -= weight([]*big.Rat{v.Set(number())})
		}
	}
	for i := range p.right {
		if !points {
			p.right[i].SetInt64(r.Int63n(5) - 2)
			continue
		}
		for j := range min(2, columns) {
			p.right[i].Add(p.right[i], p.rows[i][j])
		}
	}
	for _, v := range p.cost[1:] {
		v.SetInt64(r.Int63n(3))
	}
	rest := api.MaxProgram - weight(everything(p))
	if rest <= 0 {
		return heavy(t, r, rows, columns, digits, share*9/10, points)
	}
	p.cost[0].Set(power(rest - 1))
	if got := weight(everything(p)); got != api.MaxProgram {
		t.Fatalf("the weight %d", got)
	}
	return p
}

// P16.1: programs of the greatest weight, with many small numbers and with a few long ones.
func TestGreatestWeight(t *testing.T) {
	r := rand.New(rand.NewSource(10))
	kinds := map[int]int{}
	for _, c := range []struct {
		rows, columns, digits int
		share                 float64
	}{
		{1, 1, 400, 0.4}, {1, 2, 300, 0.8}, {2, 2, 100, 0.6}, {2, 3, 80, 0.8}, {3, 4, 50, 0.8}, {5, 6, 20, 0.8}, {8, 10, 8, 0.8}, {12, 13, 3, 0.8}, {20, 22, 2, 0.8}, {24, 28, 1, 0.8},
		{api.MaxRows, 33, 1, 0.7}, {api.MaxRows, 64, 1, 0.7}, {api.MaxRows, api.MaxColumns, 2, 0.6}, {3, api.MaxColumns, 1, 0.4}, {api.MaxRows, 1, 10, 0.5}, {api.MaxRows, 31, 1, 0.7},
	} {
		for k := range 6 {
			p := heavy(t, r, c.rows, c.columns, c.digits, c.share, k%3 > 0)
			if k%2 == 1 {
				p.cost[0].Neg(p.cost[0])
			}
			kinds[solved(t, fmt.Sprint(c), p.fracs()).Kind]++
		}
	}
	if min(kinds[1], kinds[2], kinds[3]) < 8 {
		t.Errorf("the kinds %v", kinds)
	}
}

// P16.1: a row whose denominators share nothing, so that it becomes whole by their product only.
func TestManyDenominators(t *testing.T) {
	r := rand.New(rand.NewSource(11))
	p := blank(2, 60)
	primes := []int64{2, 3, 5, 7, 11, 13, 17, 19, 23, 29, 31, 37, 41, 43, 47, 53, 59, 61, 67, 71, 73, 79, 83, 89, 97, 101, 103, 107, 109, 113}
	for k, prime := range primes {
		p.rows[0][k].SetFrac64(1, prime)
		p.rows[1][59-k].SetFrac64(-1, prime)
		p.cost[k].SetFrac64(1, primes[len(primes)-1-k])
		p.cost[59-k].SetFrac64(1, prime)
	}
	p.right[0].SetFrac64(1, 127)
	p.right[1].SetFrac64(-1, 113)
	least := new(big.Rat)
	for i := range p.rows {
		best := new(big.Rat)
		for j, v := range p.rows[i] {
			if v.Sign() == 0 {
				continue
			}
			amount := new(big.Rat).Quo(p.right[i], v)
			if cost := amount.Mul(amount, p.cost[j]); best.Sign() == 0 || cost.Cmp(best) < 0 {
				best = cost
			}
		}
		least.Add(least, best)
	}
	checkSolved(t, r, "many denominators", p, api.LPOptimal, least)
}
