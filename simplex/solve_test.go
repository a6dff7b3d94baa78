package simplex_test

import (
	"fmt"
	"math/big"
	"math/rand"
	"testing"

	"drydock/api"
)

// P16.1: the chapter's example.
func TestExample(t *testing.T) {
	s := solved(t, "the example", parse("-1 0; 1 1 = 1").fracs())
	want := api.Solution{Kind: api.LPOptimal, X: texts("1 0"), Y: texts("-1"), Value: texts("-1")[0]}
	if fmt.Sprint(s) != fmt.Sprint(want) {
		t.Errorf("%v, want %v", s, want)
	}
}

// P16.1: programs with known values.
func TestSolveByHand(t *testing.T) {
	r := rand.New(rand.NewSource(2))
	for _, c := range []struct {
		text  string
		kind  int
		value string
	}{
		{"0; 0 = 0", api.LPOptimal, "0"}, {"1; 0 = 0", api.LPOptimal, "0"}, {"-1; 0 = 0", api.LPUnbounded, ""}, {"-1; 0 = 1", api.LPInfeasible, ""},
		{"0; 0 = -1", api.LPInfeasible, ""}, {"-1; 1 = -1", api.LPInfeasible, ""}, {"-1; -1 = -1", api.LPOptimal, "-1"}, {"2/3; 5/7 = 3", api.LPOptimal, "14/5"},
		{"1 1; 1 -1 = 0", api.LPOptimal, "0"}, {"-1 0; 1 -1 = 0", api.LPUnbounded, ""}, {"-1 1; 1 -1 = 0", api.LPOptimal, "0"}, {"1 -2; 1 -1 = 5", api.LPUnbounded, ""},
		{"1 1; 1 -1 = -5", api.LPOptimal, "5"}, {"0 0 -1; 1 1 0 = 1", api.LPUnbounded, ""}, {"0 0 -1; 1 1 0 = -1", api.LPInfeasible, ""},
		{"1 1; 1 1 = 1; 1 1 = 2", api.LPInfeasible, ""}, {"1 2; 1 1 = 1; 2 2 = 2; -3 -3 = -3", api.LPOptimal, "1"}, {"1 2; 0 0 = 0; 1 1 = 1; 0 0 = 0", api.LPOptimal, "1"},
		{"1 2; 1 0 = 1; 0 1 = 1; 1 1 = 2; 1 -1 = 0", api.LPOptimal, "3"}, {"1 2; 1 0 = 1; 0 1 = 1; 1 1 = 3; 1 -1 = 0", api.LPInfeasible, ""},
		{"-3 -5 0 0 0; 1 0 1 0 0 = 4; 0 2 0 1 0 = 12; 3 2 0 0 1 = 18", api.LPOptimal, "-36"},
		{"-1/2 -1/3 0 0; 1/4 1 1 0 = 5/6; 2 1/5 0 1 = 6", api.LPOptimal, "-535/351"},
		{"2 3 0 0; 1 1 -1 0 = 4; 1 3 0 -1 = 6", api.LPOptimal, "9"}, {"-2 -3 0 0; 1 1 -1 0 = 4; 1 3 0 -1 = 6", api.LPUnbounded, ""},
		{"1 1 0 0; 1 1 1 0 = 1; 1 1 0 -1 = 2", api.LPInfeasible, ""}, {"1 1 1 1; 1 1 0 0 = 0; 0 0 1 1 = 0", api.LPOptimal, "0"},
		{"3 1 4 1; 1 1 0 0 = 2; 0 0 1 1 = 3; 1 0 1 0 = 1; 0 1 0 1 = 4", api.LPOptimal, "7"}, // four rows of rank 3
	} {
		p := parse(c.text)
		var least *big.Rat
		if c.kind == api.LPOptimal {
			least = numbers(c.value)[0]
		}
		if kind, v := p.least(); kind != c.kind || kind == api.LPOptimal && v.Cmp(least) != 0 {
			t.Fatalf("the model says %d, %v for %s", kind, v, c.text)
		}
		checkSolved(t, r, c.text, p, c.kind, least)
	}
}

// P16.1: all programs of up to two rows and three columns with the numbers -1, 0 and 1, but only those with two rows and at most two columns.
func TestAllSmallPrograms(t *testing.T) {
	r := rand.New(rand.NewSource(3))
	kinds := map[int]int{}
	for _, size := range [][2]int{{1, 1}, {1, 2}, {1, 3}, {2, 1}, {2, 2}} {
		places := len(everything(blank(size[0], size[1])))
		count := 1
		for range places {
			count *= 3
		}
		for number := range count {
			p := blank(size[0], size[1])
			for _, v := range everything(p) {
				v.SetInt64(int64(number%3 - 1))
				number /= 3
			}
			kind, least := p.least()
			kinds[kind]++
			checkSolved(t, r, "a small program", p, kind, least)
		}
	}
	if len(kinds) != 3 || min(kinds[1], kinds[2], kinds[3]) < 1000 {
		t.Errorf("the kinds %v", kinds)
	}
}

// everything returns all numbers of p.
func everything(p program) []*big.Rat {
	var out []*big.Rat
	for _, list := range p.lists() {
		out = append(out, list...)
	}
	return out
}

// P16.1: random programs, compared with all their basic points.
func TestRandomPrograms(t *testing.T) {
	r := rand.New(rand.NewSource(4))
	kinds := map[int]int{}
	for range 2500 {
		p := random(r, 4, 7, 1+r.Int63n(4))
		kind, least := p.least()
		kinds[kind]++
		checkSolved(t, r, "a random program", p, kind, least)
	}
	if min(kinds[1], kinds[2], kinds[3]) < 200 {
		t.Errorf("the kinds %v", kinds)
	}
}

// P16.1: larger random programs. That the model accepts a solution proves it.
func TestLargeRandomPrograms(t *testing.T) {
	r := rand.New(rand.NewSource(5))
	kinds := map[int]int{}
	for tried := 0; tried < 150; {
		p := random(r, 12, 24, 1+r.Int63n(3))
		if weight(everything(p)) > api.MaxProgram {
			continue
		}
		tried++
		kinds[solved(t, "a large random program", p.fracs()).Kind]++
		kinds[solved(t, "a large random program", p.disguised(r)).Kind]++
	}
	if min(kinds[1], kinds[2], kinds[3]) < 20 {
		t.Errorf("the kinds %v", kinds)
	}
}
