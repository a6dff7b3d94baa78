package fleet_test

import (
	"fmt"
	"math/big"
	"math/rand"
	"testing"

	"drydock/api"
	"drydock/fleet"
)

// checkLaw compares ValidLaw with the model and with what is wanted.
func checkLaw(t *testing.T, name string, l api.Law, want bool) {
	t.Helper()
	if got := fleet.ValidLaw(l); got != want || lawful(l) != want {
		t.Errorf("%s: ValidLaw of %+v is %t, the model says %t, want %t", name, l, got, lawful(l), want)
	}
}

// law returns a law from texts: the rows of the rates are separated by commas in the list.
func law(start, exit string, rates ...string) api.Law {
	l := api.Law{Name: "l", Start: row(start), Exit: row(exit)}
	for _, r := range rates {
		l.Rates = append(l.Rates, row(r))
	}
	return l
}

// P10.1: laws that are valid, at the bounds of each condition.
func TestLawsValid(t *testing.T) {
	for name, l := range map[string]api.Law{
		"one phase":            law("1", "1", "0"),
		"four phases":          law("1/4 1/4 1/3 1/6", "1 2 3 4", "0 1 2 3", "1 0 2 3", "1 2 0 3", "1 2 3 0"),
		"a way":                law("1 0 0 0", "0 0 0 1", "0 1 0 0", "0 0 1 0", "0 0 0 1", "0 0 0 0"),
		"a way back":           law("0 0 0 1", "1 0 0 0", "0 0 0 0", "1 0 0 0", "0 1 0 0", "0 0 1 0"),
		"a circle":             law("1/2 1/2", "0 1", "0 1", "1 0"),
		"no rates":             law("1/2 1/2", "3 1/9", "0 0", "0 0"),
		"never begun":          law("1 0", "1 1", "0 0", "0 0"),
		"the greatest numbers": law("1 0", "4294967295 1/4294967295", "0 4294967295/4294967294", "4294967294/4294967295 0"),
		"a sum of large parts": law("1/4294967295 4294967294/4294967295", "1 1", "0 0", "0 0"),
	} {
		checkLaw(t, name, l, true)
	}
}

// P10.1: each condition broken by itself.
func TestLawsNotValid(t *testing.T) {
	good := func() api.Law { return law("1/2 1/2", "0 1", "0 1/3", "2 0") }
	checkLaw(t, "the law itself", good(), true)
	for name, change := range map[string]func(l *api.Law){
		"no start":           func(l *api.Law) { l.Start = nil },
		"a start missing":    func(l *api.Law) { l.Start = row("1") },
		"a start too much":   func(l *api.Law) { l.Start = row("1/2 1/2 0") },
		"no exit":            func(l *api.Law) { l.Exit = nil },
		"an exit missing":    func(l *api.Law) { l.Exit = row("1") },
		"an exit too much":   func(l *api.Law) { l.Exit = row("0 1 1") },
		"no rates":           func(l *api.Law) { l.Rates = nil },
		"a row missing":      func(l *api.Law) { l.Rates = l.Rates[:1] },
		"a row too much":     func(l *api.Law) { l.Rates = append(l.Rates, row("0 0")) },
		"an empty row":       func(l *api.Law) { l.Rates[1] = nil },
		"a short row":        func(l *api.Law) { l.Rates[0] = row("0") },
		"a short last row":   func(l *api.Law) { l.Rates[1] = row("2") },
		"a long row":         func(l *api.Law) { l.Rates[1] = row("2 0 0") },
		"start below 0":      func(l *api.Law) { l.Start = row("-1/2 3/2") },
		"rate below 0":       func(l *api.Law) { l.Rates[0][1] = ratio(-1, 3) },
		"exit below 0":       func(l *api.Law) { l.Exit[0] = ratio(-1, 3) },
		"no fraction: start": func(l *api.Law) { l.Start = []api.Frac{ratio(1, 1), {}} },
		"no fraction: rate":  func(l *api.Law) { l.Rates[1][0] = api.Frac{Num: api.Nat{1}, Den: api.Nat{0}} },
		"no fraction: own":   func(l *api.Law) { l.Rates[1][1] = api.Frac{} },
		"no fraction: exit":  func(l *api.Law) { l.Exit[0] = api.Frac{} },
		"long rate":          func(l *api.Law) { l.Rates[0][1] = ratio(1<<32, 1) },
		"long rate below":    func(l *api.Law) { l.Rates[0][1] = ratio(1, 1<<32) },
		"long exit":          func(l *api.Law) { l.Exit[1] = ratio(1<<32, 3) },
		"long exit below":    func(l *api.Law) { l.Exit[1] = ratio(3, 1<<32) },
		"long start":         func(l *api.Law) { l.Start = row("1/4294967296 4294967295/4294967296") },
		"sum below 1":        func(l *api.Law) { l.Start = row("1/2 2147483646/4294967293") },
		"sum above 1":        func(l *api.Law) { l.Start = row("1/2 2147483647/4294967293") },
		"sum 0":              func(l *api.Law) { l.Start = row("0 0") },
		"sum 2":              func(l *api.Law) { l.Start = row("1 1") },
		"first own rate":     func(l *api.Law) { l.Rates[0][0] = ratio(1, 9) },
		"last own rate":      func(l *api.Law) { l.Rates[1][1] = ratio(1, 9) },
		"no end":             func(l *api.Law) { l.Exit[1] = ratio(0, 1) },
		"a phase stays":      func(l *api.Law) { l.Rates[0][1] = ratio(0, 1) },
	} {
		l := good()
		change(&l)
		checkLaw(t, name, l, false)
	}
	five := law("1/5 1/5 1/5 1/5 1/5", "1 1 1 1 1", "0 0 0 0 0", "0 0 0 0 0", "0 0 0 0 0", "0 0 0 0 0", "0 0 0 0 0")
	checkLaw(t, "five phases", five, false)
	checkLaw(t, "nothing", api.Law{}, false)
	checkLaw(t, "empty lists", api.Law{Start: []api.Frac{}, Rates: [][]api.Frac{}, Exit: []api.Frac{}}, false)
}

// P10.1: the name does not count.
func TestLawNames(t *testing.T) {
	for _, name := range []string{"", "a", "9", "a b", "\xff", "nnnnnnnnnnnnnnnnnnnnnnnnn"} {
		l := law("1", "1", "0")
		l.Name = name
		checkLaw(t, name, l, true)
	}
}

// P10.1: fractions count by their values, in whatever form they are.
func TestLawForms(t *testing.T) {
	l := law("1/2 1/2", "0 1", "0 1/3", "2 0")
	l.Start[0], l.Start[1] = loose(1, 2, 1<<33+1), loose(3, 6, 1<<40)
	l.Exit[0] = api.Frac{Neg: true, Num: api.Nat{0, 0}, Den: api.Nat{0, 5}}
	l.Exit[1] = loose(1<<32-1, 1<<32-2, 1<<61+1)
	l.Rates[0][0] = api.Frac{Neg: true, Den: api.Nat{7, 0}}
	l.Rates[0][1] = loose(4, 2, 1)
	checkLaw(t, "loose forms", l, true)
	power := nat(new(big.Int).Lsh(big.NewInt(1), 32*128-1))
	l.Exit[1] = api.Frac{Num: power, Den: power}
	checkLaw(t, "the longest form of 1", l, true)
	longer := nat(new(big.Int).Lsh(big.NewInt(1), 32*128))
	l.Exit[1] = api.Frac{Num: longer, Den: longer}
	checkLaw(t, "a longer form of 1", l, false)
	l.Exit[1] = api.Frac{Num: append(api.Nat{1}, make(api.Nat, 900)...), Den: append(api.Nat{1}, make(api.Nat, 900)...)}
	checkLaw(t, "1 with zeros in front", l, true)
}

// P10.1: which phases can end, for all laws of up to three phases, and many of four, that differ in which numbers are 0.
func TestEnds(t *testing.T) {
	r := rand.New(rand.NewSource(1))
	found := map[bool]int{}
	for n := 1; n <= 4; n++ {
		total := 1 << (n * n)
		for code := range total {
			if n == 4 && r.Intn(16) > 0 {
				continue
			}
			l := api.Law{Start: make([]api.Frac, n), Exit: make([]api.Frac, n), Rates: make([][]api.Frac, n)}
			for i := range n {
				l.Start[i] = ratio(1, int64(n))
				l.Rates[i] = make([]api.Frac, n)
				for k := range n {
					bit := ratio(int64(code>>(n*i+k)&1), 5)
					if i == k {
						l.Exit[i], bit = bit, ratio(0, 1)
					}
					l.Rates[i][k] = bit
				}
			}
			want := lawful(l)
			checkLaw(t, fmt.Sprintf("%d phases, code %d", n, code), l, want)
			found[want]++
		}
	}
	if found[true] < 1000 || found[false] < 1000 {
		t.Errorf("laws that are valid and that are not: %v", found)
	}
}

// P10.1: random laws, with lists of wrong lengths and all kinds of fractions.
func TestLawsRandom(t *testing.T) {
	r := rand.New(rand.NewSource(2))
	found := map[bool]int{}
	for range 4000 {
		l := randomLaw(r)
		for range r.Intn(3) {
			changeLaw(r, &l)
		}
		want := lawful(l)
		checkLaw(t, "random", l, want)
		found[want]++
	}
	if found[true] < 800 || found[false] < 800 {
		t.Errorf("laws that are valid and that are not: %v", found)
	}
}

// randomLaw returns a valid law.
func randomLaw(r *rand.Rand) api.Law {
	n := 1 + r.Intn(4)
	l := api.Law{Name: "l"}
	left := big.NewRat(1, 1)
	for i := range n {
		share := big.NewRat(int64(r.Intn(7)), 7)
		share.Mul(share, left)
		if i == n-1 {
			share.Set(left)
		}
		left.Sub(left, share)
		l.Start, l.Rates = append(l.Start, frac(share)), append(l.Rates, nil)
		for k := range n {
			rate := ratio(0, 1)
			// A phase leads to the one before it, and the first one ends.
			if k != i && (r.Intn(2) == 0 || k == i-1) {
				rate = amount(r)
			}
			l.Rates[i] = append(l.Rates[i], rate)
		}
		l.Exit = append(l.Exit, ratio(0, 1))
		if i == 0 || r.Intn(2) == 0 {
			l.Exit[i] = amount(r)
		}
	}
	return l
}

// amount returns a fraction above 0 that a fleet may have.
func amount(r *rand.Rand) api.Frac {
	if r.Intn(2) == 0 {
		return ratio(1+r.Int63n(1<<32-1), 1+r.Int63n(1<<32-1))
	}
	return loose(1+r.Int63n(9), 1+r.Int63n(9), 1+r.Int63n(1<<50))
}

// changeLaw puts another fraction into a law, or makes one of its lists longer or shorter.
func changeLaw(r *rand.Rand, l *api.Law) {
	lists := []*[]api.Frac{&l.Start, &l.Exit}
	for i := range l.Rates {
		lists = append(lists, &l.Rates[i])
	}
	list := lists[r.Intn(len(lists))]
	switch {
	case r.Intn(8) == 0:
		*list = append(*list, ratio(0, 1))
	case len(*list) == 0 || r.Intn(20) == 0:
		*list = nil
	case r.Intn(20) == 0:
		l.Rates = append(l.Rates, *list)
	default:
		others := otherFracs()
		(*list)[r.Intn(len(*list))] = others[r.Intn(len(others))].(api.Frac)
	}
}
