package linear_test

import (
	"math/big"
	"math/rand"
	"testing"

	"drydock/api"
	"drydock/linear"
)

// checkSquare checks all functions of a square matrix and of a column, with elements in lowest terms and in other forms.
func checkSquare(t *testing.T, r *rand.Rand, m model, b []*big.Rat) {
	t.Helper()
	checkDet(t, m, m.fracs())
	checkDet(t, m, m.disguised(r))
	checkRank(t, m, m.fracs())
	checkRank(t, m, m.disguised(r))
	checkInverse(t, m, m.fracs())
	checkInverse(t, m, m.disguised(r))
	checkSolution(t, m, b, m.fracs(), model{b}.fracs()[0])
	checkSolution(t, m, b, m.disguised(r), model{b}.disguised(r)[0])
}

// P5.3: the chapter's examples and other systems written out.
func TestSolveByHand(t *testing.T) {
	for _, c := range []struct{ a, b, want string }{
		{"2 1; 1 1", "3 2", "1 1"}, {"3/4", "-2/5", "-8/15"}, {"5", "0", "0"}, {"0 1; 1 0", "3 4", "4 3"},
		{"1/2 1/3; 1/3 1/4", "1 0", "18 -24"}, {"0 0 2; 3 0 0; 0 -5 0", "2 6 10", "2 -2 1"},
		{"1 2 3; 1 2 4; 2 5 1", "6 7 8", "1 1 1"}, // the second pivot is 0 at first
	} {
		got, err := linear.Solve(parse(c.a).fracs(), parse(c.b).fracs()[0])
		checkVector(t, "Solve", got, err, parse(c.want)[0])
	}
	for _, c := range []struct{ a, want string }{
		{"-2/3", "-3/2"}, {"1 2; 3 4", "-2 1; 3/2 -1/2"}, {"0 1/2; 4 0", "0 1/4; 2 0"}, {"0 0 1; 1 0 0; 0 1 0", "0 1 0; 0 0 1; 1 0 0"},
	} {
		got, err := linear.Invert(parse(c.a).fracs())
		checkMatrix(t, "Invert", got, err, parse(c.want))
	}
}

// P5.3: the chapter's examples and other matrices written out, some of which need exchanges of rows.
func TestDetAndRankByHand(t *testing.T) {
	for _, c := range []struct {
		a, det string
		rank   int
	}{
		{"1 2; 3 4", "-2", 2}, {"3 4; 1 2", "2", 2}, {"1 2; 2 4", "0", 1}, {"0", "0", 0}, {"-7/9", "-7/9", 1}, {"0 0; 0 0", "0", 0},
		{"0 1; 1 0", "-1", 2}, {"0 2; 3 4", "-6", 2}, {"0 1; 0 5", "0", 1}, {"0 0; 3 1", "0", 1},
		{"0 1 0; 0 0 1; 1 0 0", "1", 3}, {"0 0 1; 0 1 0; 1 0 0", "-1", 3}, {"0 0 0 1; 1 0 0 0; 0 1 0 0; 0 0 1 0", "-1", 4},
		{"1 2 3; 1 2 4; 2 5 1", "-1", 3}, {"1 2 3; 4 5 6; 7 8 9", "0", 2}, {"1 2 3; 2 4 6; -1 -2 -3", "0", 1},
		{"1/2 1/3; 1/3 1/4", "1/72", 2}, {"1/2 1/3; 3 2", "0", 1}, {"1/6 0 0; 0 2/5 0; 0 0 15", "1", 3},
	} {
		got, err := linear.Det(parse(c.a).fracs())
		if err != api.OK || !identical(got, frac(parse(c.det)[0][0])) {
			t.Errorf("Det(%s) = %v, %d, want %s", c.a, got, err, c.det)
		}
		if rank, err := linear.Rank(parse(c.a).fracs()); err != api.OK || rank != c.rank {
			t.Errorf("Rank(%s) = %d, %d, want %d", c.a, rank, err, c.rank)
		}
	}
	for _, c := range []struct {
		a    string
		rank int
	}{
		{"0 0 0", 0}, {"0; 0", 0}, {"0 0 1/3", 1}, {"0; 0; 5", 1}, {"1 2; 2 4; 3 6", 1}, {"1 2; 2 4; 3 7", 2}, {"1 2 3; 2 4 7", 2}, {"0 0 1; 0 0 2", 1},
		{"0 1 2 3; 0 2 4 7; 0 3 6 1", 2}, {"1 1 0 0; 0 0 1 1; 1 1 1 1", 2}, {"1 1 0 0; 1 1 0 5; 2 2 3 1; 4 4 3 6", 3},
	} {
		if rank, err := linear.Rank(parse(c.a).fracs()); err != api.OK || rank != c.rank {
			t.Errorf("Rank(%s) = %d, %d, want %d", c.a, rank, err, c.rank)
		}
	}
}

// P5.3: random matrices of every order and rank.
func TestSquareMatrices(t *testing.T) {
	r := rand.New(rand.NewSource(2))
	for n := 1; n <= 7; n++ {
		for rank := 0; rank <= n; rank++ {
			for range 8 {
				checkSquare(t, r, random(r, n, n, rank), random(r, 1, n, 1)[0])
			}
		}
	}
}

// P5.3: the numbers 0 and 1 in all places, so that every pattern of exchanges of rows occurs.
func TestAllSmallMatrices(t *testing.T) {
	r := rand.New(rand.NewSource(3))
	for n := 1; n <= 3; n++ {
		for number := range 1 << (n * n) {
			m := filled(n, n, func(i, j int) *big.Rat { return ratio(int64(number>>(i*n+j)&1), 1) })
			checkSquare(t, r, m, parse("1 -2 3/4")[0][:n])
		}
	}
}

// P5.3: matrices of the greatest order.
func TestGreatestOrder(t *testing.T) {
	r := rand.New(rand.NewSource(4))
	n := api.MaxOrder
	sign := func(int, int) *big.Rat { return ratio(int64(1-2*r.Intn(2)), 1) }
	column := filled(1, n, sign)[0]
	checkSquare(t, r, filled(n, n, sign), column)
	checkSquare(t, r, unit(n), column)
	checkSquare(t, r, constant(n, n, -1), column)
	checkSquare(t, r, constant(n, n, 0), column)
	backwards := filled(n, n, func(i, j int) *big.Rat { return ratio(int64((i+j+1)/n*(2*n-1-i-j)), int64(1+(i*j)%2)) })
	checkSquare(t, r, backwards, column)
	sparse := filled(n, n, func(i, j int) *big.Rat {
		if j == 0 && i+1 < n || r.Intn(3) > 0 {
			return ratio(0, 1)
		}
		return number(r)
	})
	sparse[n-1][0] = ratio(2, 3)
	checkSquare(t, r, sparse, column)
}

// P5.3: the rank of matrices with any numbers of rows and columns.
func TestRank(t *testing.T) {
	r := rand.New(rand.NewSource(5))
	for range 400 {
		rows, columns := 1+r.Intn(9), 1+r.Intn(9)
		m := random(r, rows, columns, r.Intn(min(rows, columns)+1))
		checkRank(t, m, m.fracs())
		checkRank(t, m, m.disguised(r))
	}
	for _, order := range [][2]int{{1, 24}, {24, 1}, {24, 7}, {7, 24}, {23, 24}, {24, 23}} {
		for rank := 0; rank <= min(order[0], order[1]); rank += 3 {
			base := filled(rank+1, order[1], func(int, int) *big.Rat { return ratio(int64(r.Intn(3)-1), int64(1+r.Intn(2))) })
			base[rank] = constant(1, order[1], 0)[0]
			m := filled(order[0], order[1], func(i, j int) *big.Rat { return base[(i*5+2)%(rank+1)][j] })
			checkRank(t, m, m.fracs())
			checkRank(t, m.transposed(), m.transposed().disguised(r))
		}
	}
}
