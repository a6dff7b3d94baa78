package syntax_test

import (
	"fmt"
	"math/big"
	"math/rand"
	"strings"
	"testing"

	"drydock/api"
	"drydock/syntax"
)

// checkEqual compares Equal, with its arguments in both orders, with the model.
func checkEqual(t *testing.T, name string, a, b api.Source) bool {
	t.Helper()
	want := keyOf(a) == keyOf(b)
	if got := syntax.Equal(a, b); got != want || syntax.Equal(b, a) != got {
		t.Errorf("%s: Equal = %v, want %v", name, got, want)
	}
	if !syntax.Equal(a, a) || !syntax.Equal(b, b) {
		t.Errorf("%s: a source is not equal to itself", name)
	}
	return want
}

// P9.6: a source with every part of the grammar and itself with every part changed in every way.
func TestEqualParts(t *testing.T) {
	a, b := sample(t), sample(t)
	found := map[bool]int{}
	eachVariant(&b, func(name string) {
		found[checkEqual(t, name, a, b)]++
	})
	if found[true] < 50 || found[false] < 2000 {
		t.Errorf("equal and not equal: %v", found)
	}
}

// P9.6: every field but the positions counts.
func TestEqualFields(t *testing.T) {
	for name, change := range map[string]func(s *api.Source){
		"Extent":          func(s *api.Source) { s.Extent++ },
		"law name":        func(s *api.Source) { s.Laws[0].Law.Name = "x" },
		"law start":       func(s *api.Source) { s.Laws[0].Law.Start[1] = ratio(1, 7) },
		"law rates":       func(s *api.Source) { s.Laws[0].Law.Rates[1][0] = ratio(1, 7) },
		"law rows":        func(s *api.Source) { s.Laws[0].Law.Rates = s.Laws[0].Law.Rates[:1] },
		"law exit":        func(s *api.Source) { s.Laws[1].Law.Exit[0] = ratio(1, 7) },
		"laws":            func(s *api.Source) { s.Laws = s.Laws[1:] },
		"model name":      func(s *api.Source) { s.Models[0].Name = "x" },
		"model extents":   func(s *api.Source) { s.Models[1].Extents = 7 },
		"model port":      func(s *api.Source) { s.Models[1].Port = 7 },
		"model law":       func(s *api.Source) { s.Models[1].Law = "x" },
		"models":          func(s *api.Source) { s.Models = append(s.Models, s.Models[0]) },
		"node level":      func(s *api.Source) { s.Nodes[12].Level = 4 },
		"node name":       func(s *api.Source) { s.Nodes[12].Name = "x" },
		"node uplink":     func(s *api.Source) { s.Nodes[0].Uplink = 1 },
		"node shock":      func(s *api.Source) { s.Nodes[0].Shock = ratio(1, 7) },
		"node model":      func(s *api.Source) { s.Nodes[12].Model = "x" },
		"nodes":           func(s *api.Source) { s.Nodes = s.Nodes[:12] },
		"order of nodes":  func(s *api.Source) { s.Nodes[4], s.Nodes[5] = s.Nodes[5], s.Nodes[4] },
		"policy name":     func(s *api.Source) { s.Policies[0].Name = "x" },
		"policy K":        func(s *api.Source) { s.Policies[0].K = 7 },
		"policy M":        func(s *api.Source) { s.Policies[0].M = 7 },
		"policy quorum":   func(s *api.Source) { s.Policies[0].Quorum = 7 },
		"spread, fleet":   func(s *api.Source) { s.Policies[0].Spread[0] = 7 },
		"spread, machine": func(s *api.Source) { s.Policies[0].Spread[4] = 7 },
		"policy model":    func(s *api.Source) { s.Policies[0].Models[1] = "x" },
		"policy models":   func(s *api.Source) { s.Policies[0].Models = s.Policies[0].Models[:1] },
		"policy repair":   func(s *api.Source) { s.Policies[1].Repair[1] = ratio(1, 7) },
		"policy target":   func(s *api.Source) { s.Policies[0].Target = ratio(1, 7) },
		"policy horizon":  func(s *api.Source) { s.Policies[0].Horizon = ratio(1, 7) },
		"volume name":     func(s *api.Source) { s.Volumes[1].Name = "x" },
		"volume policy":   func(s *api.Source) { s.Volumes[1].Policy = "x" },
		"volumes":         func(s *api.Source) { s.Volumes = nil },
	} {
		a, b := sample(t), sample(t)
		change(&b)
		if syntax.Equal(a, b) || syntax.Equal(b, a) {
			t.Errorf("%s does not count", name)
		}
		checkEqual(t, name, a, b)
	}
}

// P9.6: positions do not count.
func TestEqualPositions(t *testing.T) {
	a, b := sample(t), sample(t)
	for i := range b.Laws {
		b.Laws[i].Pos = api.Pos{Line: -1}
	}
	for i := range b.Models {
		b.Models[i].Pos.Col++
	}
	for i := range b.Nodes {
		b.Nodes[i].Pos.Line++
	}
	for i := range b.Policies {
		b.Policies[i].Pos = api.Pos{}
	}
	for i := range b.Volumes {
		b.Volumes[i].Pos.Col = 99
	}
	if !syntax.Equal(a, b) || !syntax.Equal(b, a) {
		t.Error("positions count")
	}
	r := rand.New(rand.NewSource(5))
	for range 200 {
		tokens := randomTokens(r, readGrammar(), 2, 0)
		a, b := parse(spread(r, tokens)), parse(spread(r, tokens))
		if a.err == api.OK && b.err == api.OK && !syntax.Equal(a.source, b.source) {
			t.Errorf("%v with other space: %v, %v", tokens, a, b)
		}
	}
}

// fracPlaces returns sources that have a fraction at each place where one may stand.
func fracPlaces(x api.Frac) []api.Source {
	return []api.Source{
		{Laws: []api.SourceLaw{{Law: api.Law{Start: []api.Frac{x}}}}},
		{Laws: []api.SourceLaw{{Law: api.Law{Rates: [][]api.Frac{nil, {ratio(1, 2), x}}}}}},
		{Laws: []api.SourceLaw{{Law: api.Law{Exit: []api.Frac{ratio(1, 2), x}}}}},
		{Nodes: []api.SourceNode{{Shock: x}}},
		{Policies: []api.SourcePolicy{{Repair: []api.Frac{x}}}},
		{Policies: []api.SourcePolicy{{Target: x}}},
		{Policies: []api.SourcePolicy{{Horizon: x}}},
	}
}

// P9.6: fractions are compared by their values, those that are not valid by their representations.
func TestEqualFractions(t *testing.T) {
	var list []api.Frac
	for _, x := range otherFracs() {
		list = append(list, x.(api.Frac))
	}
	long := append(api.Nat{1}, make(api.Nat, 128)...)
	long[128] = 1
	list = append(list,
		api.Frac{Num: api.Nat{}, Den: api.Nat{}}, api.Frac{Den: api.Nat{0}}, api.Frac{Num: api.Nat{0}}, api.Frac{Neg: true, Num: api.Nat{1}}, api.Frac{Num: api.Nat{2}},
		api.Frac{Num: long, Den: api.Nat{1}}, api.Frac{Num: long, Den: api.Nat{1, 0}}, api.Frac{Num: append(long[:129:129], 0), Den: api.Nat{1}}, api.Frac{Num: long, Den: long}, api.Frac{Neg: true, Num: long, Den: long}, api.Frac{Num: api.Nat{1}, Den: long},
		ratio(1, 1), ratio(-1, 2), ratio(10, 1), ratio(2, 1),
	)
	found := map[bool]int{}
	for i, x := range list {
		for k, y := range list {
			a, b := fracPlaces(x), fracPlaces(y)
			for n := range a {
				found[checkEqual(t, fmt.Sprintf("fractions %d and %d at place %d", i, k, n), a[n], b[n])]++
			}
		}
	}
	if found[true] < 400 || found[false] < 2000 {
		t.Errorf("equal and not equal: %v", found)
	}
}

// P9.6: random large fractions of equal and of different values.
func TestEqualRandomFractions(t *testing.T) {
	r := rand.New(rand.NewSource(6))
	for range 300 {
		num, den, factor := new(big.Int).Rand(r, big.NewInt(1<<62)), big.NewInt(1+r.Int63()), big.NewInt(1+r.Int63())
		x := api.Frac{Neg: r.Intn(2) == 0, Num: nat(num), Den: nat(den)}
		y := api.Frac{Neg: x.Neg, Num: nat(new(big.Int).Mul(num, factor)), Den: append(nat(new(big.Int).Mul(den, factor)), 0)}
		z := api.Frac{Neg: x.Neg, Num: y.Num, Den: nat(new(big.Int).Add(integer(y.Den), big.NewInt(1)))}
		for i := range fracPlaces(x) {
			a, b, c := fracPlaces(x)[i], fracPlaces(y)[i], fracPlaces(z)[i]
			if !checkEqual(t, "equal values", a, b) || checkEqual(t, "values that differ a little", a, c) != (num.Sign() == 0) {
				t.Errorf("%v, %v, %v", x, y, z)
			}
		}
	}
}

// P9.6: nil and empty slices are the same, whichever list it is.
func TestEqualEmpty(t *testing.T) {
	full := api.Source{
		Laws: []api.SourceLaw{}, Models: []api.SourceModel{}, Nodes: []api.SourceNode{}, Policies: []api.SourcePolicy{}, Volumes: []api.SourceVolume{},
	}
	if !syntax.Equal(api.Source{}, full) || !syntax.Equal(full, api.Source{}) {
		t.Error("empty lists of declarations")
	}
	law := func(start []api.Frac, rates [][]api.Frac, exit []api.Frac) api.Source {
		return api.Source{Laws: []api.SourceLaw{{Law: api.Law{Start: start, Rates: rates, Exit: exit}}}}
	}
	policy := func(models []string, repair []api.Frac) api.Source {
		return api.Source{Policies: []api.SourcePolicy{{Models: models, Repair: repair}}}
	}
	for i, pair := range [][2]api.Source{
		{law(nil, nil, nil), law([]api.Frac{}, [][]api.Frac{}, []api.Frac{})},
		{law(nil, [][]api.Frac{nil, nil}, nil), law(nil, [][]api.Frac{{}, nil}, nil)},
		{policy(nil, nil), policy([]string{}, []api.Frac{})},
		{{Nodes: []api.SourceNode{{}}}, {Nodes: []api.SourceNode{{Shock: api.Frac{Num: api.Nat{}, Den: api.Nat{}}}}}},
	} {
		if !checkEqual(t, fmt.Sprint("pair ", i), pair[0], pair[1]) {
			t.Errorf("pair %d", i)
		}
	}
	if checkEqual(t, "rows", law(nil, nil, nil), law(nil, [][]api.Frac{nil}, nil)) || checkEqual(t, "volumes", api.Source{}, api.Source{Volumes: []api.SourceVolume{{}}}) {
		t.Error("an empty list is equal to one with an element")
	}
}

// P9.6: random pairs, among them many that differ in one place only.
func TestEqualPairs(t *testing.T) {
	r, g := rand.New(rand.NewSource(7)), readGrammar()
	for range 300 {
		got := g.model(strings.Join(randomTokens(r, g, 2, 0), " "))
		if got.err != api.OK {
			continue
		}
		a, b := clone(got.source), clone(got.source)
		for range r.Intn(3) {
			change(r, &a)
		}
		checkEqual(t, "random", a, b)
		change(r, &b)
		checkEqual(t, "random", a, b)
	}
}
