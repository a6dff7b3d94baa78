package syntax_test

import (
	"fmt"
	"math"
	"math/rand"
	"reflect"
	"strings"
	"testing"

	"drydock/api"
	"drydock/syntax"
)

// change puts another value into a random part of a source. A part of a list may be changed after the list.
func change(r *rand.Rand, s *api.Source) {
	list := places(reflect.ValueOf(s).Elem(), "source")
	p := list[r.Intn(len(list))]
	p.value.Set(reflect.ValueOf(p.other[r.Intn(len(p.other))]))
}

// P9.4: every reason for ErrArg, written out.
func TestRefused(t *testing.T) {
	none, below := api.Frac{}, ratio(-1, 3)
	for name, spoil := range map[string]func(s *api.Source){
		"the extent -1":                    func(s *api.Source) { s.Extent = -1 },
		"the extent 1000001":               func(s *api.Source) { s.Extent = 1000001 },
		"the least extent":                 func(s *api.Source) { s.Extent = math.MinInt },
		"a law without a name":             func(s *api.Source) { s.Laws[1].Law.Name = "" },
		"a law with a wrong name":          func(s *api.Source) { s.Laws[0].Law.Name = "1" },
		"a law without Start":              func(s *api.Source) { s.Laws[0].Law.Start = []api.Frac{} },
		"a law without Rates":              func(s *api.Source) { s.Laws[0].Law.Rates = nil },
		"a law with an empty row":          func(s *api.Source) { s.Laws[0].Law.Rates[1] = nil },
		"a law with only an empty row":     func(s *api.Source) { s.Laws[0].Law.Rates = [][]api.Frac{{}} },
		"a law without Exit":               func(s *api.Source) { s.Laws[1].Law.Exit = nil },
		"no fraction in Start":             func(s *api.Source) { s.Laws[0].Law.Start[1] = none },
		"a rate below 0":                   func(s *api.Source) { s.Laws[0].Law.Rates[1][0] = below },
		"an exit below 0":                  func(s *api.Source) { s.Laws[0].Law.Exit[0] = below },
		"a model without a name":           func(s *api.Source) { s.Models[0].Name = "" },
		"a model without a law":            func(s *api.Source) { s.Models[0].Law = "" },
		"a model with -1 extents":          func(s *api.Source) { s.Models[0].Extents = -1 },
		"a model with a large port":        func(s *api.Source) { s.Models[1].Port = 1000001 },
		"a site with a wrong name":         func(s *api.Source) { s.Nodes[0].Name = "s/1" },
		"a site with the uplink -1":        func(s *api.Source) { s.Nodes[0].Uplink = -1 },
		"a rack with a large uplink":       func(s *api.Source) { s.Nodes[2].Uplink = 1000001 },
		"a room with a model":              func(s *api.Source) { s.Nodes[1].Model = "disk-1" },
		"a machine with a shock below 0":   func(s *api.Source) { s.Nodes[3].Shock = below },
		"a machine without a shock":        func(s *api.Source) { s.Nodes[3].Shock = none },
		"a node of level 0":                func(s *api.Source) { s.Nodes[12].Level = 0 },
		"a node of level 6":                func(s *api.Source) { s.Nodes[12].Level = 6 },
		"a node of the greatest level":     func(s *api.Source) { s.Nodes[12].Level = math.MaxInt },
		"a node of the least level":        func(s *api.Source) { s.Nodes[12].Level = math.MinInt },
		"a rack in a site":                 func(s *api.Source) { s.Nodes[1].Level = 3 },
		"a first node that is no site":     func(s *api.Source) { s.Nodes = s.Nodes[1:] },
		"a drive in a rack":                func(s *api.Source) { s.Nodes = append(s.Nodes[:3], s.Nodes[4:]...) },
		"a drive in a room":                func(s *api.Source) { s.Nodes = append(s.Nodes, s.Nodes[0], s.Nodes[1], s.Nodes[4]) },
		"a drive without a name":           func(s *api.Source) { s.Nodes[4].Name = "" },
		"a drive without a model":          func(s *api.Source) { s.Nodes[4].Model = "" },
		"a drive with an uplink":           func(s *api.Source) { s.Nodes[4].Uplink = 1 },
		"a drive with a shock":             func(s *api.Source) { s.Nodes[4].Shock = ratio(1, 2) },
		"a drive whose shock has no value": func(s *api.Source) { s.Nodes[4].Shock = none },
		"a policy without a name":          func(s *api.Source) { s.Policies[1].Name = "" },
		"a policy with K -1":               func(s *api.Source) { s.Policies[0].K = -1 },
		"a policy with a large M":          func(s *api.Source) { s.Policies[0].M = 1000001 },
		"a policy with the quorum -1":      func(s *api.Source) { s.Policies[0].Quorum = -1 },
		"a bound of the fleet":             func(s *api.Source) { s.Policies[0].Spread[0] = 1 },
		"a bound below 0":                  func(s *api.Source) { s.Policies[0].Spread[1] = -1 },
		"a large bound":                    func(s *api.Source) { s.Policies[0].Spread[4] = 1000001 },
		"a policy without models":          func(s *api.Source) { s.Policies[0].Models = []string{} },
		"a policy with an empty model":     func(s *api.Source) { s.Policies[0].Models[1] = "" },
		"a policy without Repair":          func(s *api.Source) { s.Policies[0].Repair = nil },
		"a repair rate below 0":            func(s *api.Source) { s.Policies[1].Repair[1] = below },
		"a target below 0":                 func(s *api.Source) { s.Policies[0].Target = below },
		"no horizon":                       func(s *api.Source) { s.Policies[0].Horizon = none },
		"a volume without a name":          func(s *api.Source) { s.Volumes[0].Name = "" },
		"a volume without a policy":        func(s *api.Source) { s.Volumes[1].Policy = "" },
		"a volume whose policy is a sign":  func(s *api.Source) { s.Volumes[1].Policy = ";" },
	} {
		s := sample(t)
		spoil(&s)
		if text, err := syntax.Format(s); text != "" || err != api.ErrArg {
			t.Errorf("%s: %q, error %d", name, text, err)
		}
		checkFormat(t, name, s)
	}
}

// P9.4: what looks wrong and is not: minus 0, zeros at the ends of numbers, a shock that is not in lowest terms.
func TestNotRefused(t *testing.T) {
	s := sample(t)
	minus := api.Frac{Neg: true, Num: api.Nat{0, 0}, Den: api.Nat{5, 0}}
	s.Laws[0].Law.Start[0], s.Laws[0].Law.Rates[0][0], s.Nodes[0].Shock, s.Nodes[4].Shock, s.Policies[0].Target = minus, minus, minus, minus, minus
	s.Laws[0].Law.Exit[1] = api.Frac{Num: append(api.Nat{6}, make(api.Nat, 300)...), Den: api.Nat{4, 0}}
	s.Extent, s.Policies[0].Spread[1] = 1000000, 1000000
	text, err := checkFormat(t, "a source with odd zeros", s)
	if err != api.OK || !strings.HasPrefix(text, "extent 1000000;\nlaw wear {\nstart 0 0;\nrates 0 1/10, 3/2 0;\nexit 0 3/2;\n") || !strings.Contains(text, "site s uplink 9 {") || !strings.Contains(text, "target 0 in 8760;") {
		t.Errorf("error %d, %s", err, text)
	}
}

// P9.5: all lists of up to five nodes of all levels from 0 to 6, and some of others.
func TestTrees(t *testing.T) {
	levels, shapes := []int{0, 1, 2, 3, 4, 5, 6}, [][]int{{}}
	for range 5 {
		var longer [][]int
		for _, shape := range shapes {
			for _, level := range levels {
				longer = append(longer, append(append([]int{}, shape...), level))
			}
		}
		shapes = longer
		found := map[api.Errno]int{}
		for _, shape := range shapes {
			found[checkTree(t, shape)]++
		}
		if found[api.OK] == 0 || found[api.ErrArg] == 0 || found[api.OK]+found[api.ErrArg] != len(shapes) {
			t.Errorf("errors that were found: %v", found)
		}
	}
	for _, shape := range [][]int{
		{1, 2, 3, 4, 5, 5, 4, 5, 3, 4, 5, 2, 3, 4, 5, 1, 2, 3, 4, 5}, {1, 2, 3, 4, 5, 3, 5}, {1, 2, 3, 4, 5, 2, 4}, {1, 2, 3, 4, 5, 1, 3}, {1, 2, 3, 4, 5, 1, 5}, {1, 2, 3, 4, 5, 4, 3, 2, 1}, {1, 2, 3, 4, 5, 4, 3, 2, 1, 5},
		{-1}, {1, -1}, {1, 2, 3, 4, 7}, {math.MaxInt}, {1, math.MinInt, 2}, {1, 2, 3, 4, 5, 6}, {1, 2, 3, 4, 5, math.MaxInt},
	} {
		checkTree(t, shape)
	}
}

// checkTree formats nodes of the levels, and returns the error.
func checkTree(t *testing.T, levels []int) api.Errno {
	t.Helper()
	var s api.Source
	for i, level := range levels {
		n := api.SourceNode{Level: level, Name: fmt.Sprintf("n%d", i), Shock: ratio(0, 1), Pos: api.Pos{Line: 7}}
		if level == 5 {
			n.Model = "m"
		} else {
			n.Uplink = i
		}
		s.Nodes = append(s.Nodes, n)
	}
	text, err := checkFormat(t, fmt.Sprint(levels), s)
	if err == api.OK {
		if got, err, _ := syntax.Parse(text); err != api.OK || keyOf(got) != keyOf(s) {
			t.Errorf("levels %v: the text is read as %+v", levels, got)
		}
	}
	return err
}
