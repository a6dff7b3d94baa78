package fleet_test

import (
	"fmt"
	"math/rand"
	"reflect"
	"slices"
	"strings"
	"testing"

	"drydock/api"
	"drydock/fleet"
	"drydock/syntax"
)

// parse returns the source of a text.
func parse(t *testing.T, text string) api.Source {
	t.Helper()
	s, err, pos := syntax.Parse(text)
	if err != api.OK {
		t.Fatalf("%.200q: error %d at %v", text, err, pos)
	}
	return s
}

// P10.4: the examples of the chapter, and the first one of the document.
func TestExamples(t *testing.T) {
	s := parse(t, "extent 1;\nmodel m { extents 1; port 1; law x; }")
	checkError(t, "a model without its law", s, api.ErrName, api.Pos{Line: 2, Col: 7})
	checkError(t, "extent 5", parse(t, "extent 5;"), api.ErrRange, api.Pos{})
	checkError(t, "a volume without its policy", parse(t, "extent 1; volume v gold;"), api.ErrName, api.Pos{Line: 1, Col: 18})
}

// P10.3: every field of the sample, written out.
func TestCompileWritten(t *testing.T) {
	want := answer{fleet: sampleFleet()}
	if got := compile(sample(t)); got.String() != want.String() {
		t.Errorf("the sample: %s", unlike(got.String(), want.String()))
	}
	checkCompile(t, "the sample", sample(t))
	least := answer{fleet: api.Fleet{Extent: 3, Domains: []api.Domain{{Parent: -1, Shock: ratio(0, 1)}}}}
	if got := compile(parse(t, "extent 3;")); got.String() != least.String() {
		t.Errorf("the least fleet: %v", got)
	}
}

// P10.3: a source that was not parsed, with positions and forms of fractions that no text has.
func TestCompileForms(t *testing.T) {
	s := api.Source{
		Extent: 1,
		Laws:   []api.SourceLaw{{Law: api.Law{Name: "l", Start: []api.Frac{loose(1, 1, 6)}, Rates: [][]api.Frac{{{Neg: true, Den: api.Nat{0, 0, 9}}}}, Exit: []api.Frac{loose(6, 4, 1<<40)}}}},
		Models: []api.SourceModel{{Name: "m", Extents: 1, Port: 2, Law: "l"}},
		Nodes: []api.SourceNode{
			{Level: 1, Name: "a", Uplink: 3, Shock: loose(2, 6, 1<<50)},
			{Level: 2, Name: "b", Uplink: 4, Shock: api.Frac{Neg: true, Num: api.Nat{0}, Den: api.Nat{8, 0}}},
			{Level: 3, Name: "c", Uplink: 5, Shock: loose(1<<32-1, 1<<32-2, 1<<60)},
			{Level: 4, Name: "d", Uplink: 6, Shock: ratio(0, 1)},
			{Level: 5, Name: "e", Model: "m", Shock: api.Frac{Neg: true, Den: api.Nat{0, 7}}},
		},
		Policies: []api.SourcePolicy{{Name: "p", K: 1, M: 0, Quorum: 1, Spread: [5]int{0, 4, 3, 2, 1}, Models: []string{"m"}, Repair: []api.Frac{loose(9, 6, 1)}, Target: loose(1, 2, 1<<33), Horizon: loose(0, 3, 1)}},
	}
	want := answer{fleet: api.Fleet{
		Extent: 1,
		Laws:   []api.Law{{Name: "l", Start: row("1"), Rates: [][]api.Frac{row("0")}, Exit: row("3/2")}},
		Models: []api.Model{{Name: "m", Extents: 1, Port: 2}},
		Domains: []api.Domain{
			{Parent: -1, Shock: ratio(0, 1)},
			{Name: "a", Level: 1, Uplink: 3, Shock: ratio(1, 3)},
			{Name: "b", Level: 2, Parent: 1, Uplink: 4, Shock: ratio(0, 1)},
			{Name: "c", Level: 3, Parent: 2, Uplink: 5, Shock: ratio(1<<32-1, 1<<32-2)},
			{Name: "d", Level: 4, Parent: 3, Uplink: 6, Shock: ratio(0, 1)},
		},
		Drives:   []api.Drive{{Name: "e", Machine: 4}},
		Policies: []api.Policy{{Name: "p", K: 1, Quorum: 1, Spread: [5]int{0, 4, 3, 2, 1}, Models: []int{0}, Repair: row("3/2"), Target: ratio(1, 2), Horizon: ratio(0, 1)}},
	}}
	if got := compile(s); got.String() != want.String() {
		t.Errorf("%v\nwant\n%v", got, want)
	}
}

// nodesOf returns a source of nodes of some levels, each with a name and a number of its own, and with one model.
func nodesOf(levels []int) api.Source {
	s := api.Source{
		Extent: 1,
		Laws:   []api.SourceLaw{{Law: law("1", "1", "0")}},
		Models: []api.SourceModel{{Name: "m", Extents: 1, Port: 1, Law: "l"}},
	}
	for i, level := range levels {
		n := api.SourceNode{Level: level, Name: fmt.Sprint("n", i), Shock: ratio(0, 1), Pos: api.Pos{Line: 7, Col: i}}
		if level == 5 {
			n.Model = "m"
		} else {
			n.Uplink = i + 1
		}
		s.Nodes = append(s.Nodes, n)
	}
	return s
}

// P10.3 and P10.4: all lists of up to five nodes of all levels from 0 to 6.
func TestTrees(t *testing.T) {
	shapes := [][]int{{}}
	for range 5 {
		var longer [][]int
		for _, shape := range shapes {
			for level := range 7 {
				longer = append(longer, append(slices.Clone(shape), level))
			}
		}
		shapes = longer
		found := map[api.Errno]int{}
		for _, shape := range shapes {
			found[checkCompile(t, fmt.Sprint(shape), nodesOf(shape)).err]++
		}
		if found[api.OK] == 0 || found[api.ErrArg] == 0 || found[api.OK]+found[api.ErrArg] != len(shapes) {
			t.Errorf("errors that were found: %v", found)
		}
	}
}

// P10.3: parents and machines, written out, and trees of many nodes.
func TestParents(t *testing.T) {
	f := compile(nodesOf([]int{1, 2, 3, 4, 5, 5, 4, 5, 3, 4, 5, 2, 3, 4, 5, 1, 2, 3, 4, 5})).fleet
	var parents, machines []int
	for _, d := range f.Domains {
		parents = append(parents, d.Parent)
	}
	for _, d := range f.Drives {
		machines = append(machines, d.Machine)
	}
	if want := []int{-1, 0, 1, 2, 3, 3, 2, 6, 1, 8, 9, 0, 11, 12, 13}; !slices.Equal(parents, want) {
		t.Errorf("parents %v, want %v", parents, want)
	}
	if want := []int{4, 4, 5, 7, 10, 14}; !slices.Equal(machines, want) {
		t.Errorf("machines %v, want %v", machines, want)
	}
	r := rand.New(rand.NewSource(4))
	found := map[api.Errno]int{}
	for range 600 {
		levels := []int{1}
		for range r.Intn(50) {
			levels = append(levels, 1+r.Intn(min(levels[len(levels)-1]+1, 5)))
		}
		if r.Intn(4) == 0 {
			levels[r.Intn(len(levels))] = r.Intn(7)
		}
		found[checkCompile(t, fmt.Sprint(levels), nodesOf(levels)).err]++
	}
	if found[api.OK] < 100 || found[api.ErrArg] < 50 || found[api.ErrSize] < 10 {
		t.Errorf("errors that were found: %v", found)
	}
}

// P10.3: names of other kinds of declarations do not count, and names are found wherever they are declared.
func TestSameNames(t *testing.T) {
	s := parse(t, `extent 1;
		law a { start 1; rates 0; exit 1; } law b { start 1; rates 0; exit 2; }
		model a { extents 1; port 1; law b; } model b { extents 2; port 1; law a; }
		site a uplink 1 { room b uplink 1 { rack c uplink 1 { machine d uplink 1 { drive e b; drive f a; } } } }
		policy a { code 1 + 0; quorum 1; on b a; repair 1; target 0 in 0; } policy b { code 1 + 0; quorum 1; on b; repair 1; target 0 in 0; }
		volume a b; volume b a; volume c b;`)
	f := checkCompile(t, "same names", s).fleet
	if len(f.Volumes) != 3 || f.Models[0].Law != 1 || f.Models[1].Law != 0 || f.Drives[0].Model != 1 || f.Drives[1].Model != 0 || !slices.Equal(f.Policies[0].Models, []int{1, 0}) || f.Volumes[0].Policy != 1 || f.Volumes[1].Policy != 0 || f.Volumes[2].Policy != 1 {
		t.Errorf("%+v", f)
	}
}

// P10.3 and P10.4: every field of the sample with every other value.
func TestCompileVariants(t *testing.T) {
	s, found := sample(t), map[api.Errno]int{}
	eachVariant(&s, func(name string) {
		found[checkCompile(t, name, s).err]++
	})
	for err, least := range map[api.Errno]int{api.OK: 400, api.ErrArg: 500, api.ErrRange: 200, api.ErrName: 100, api.ErrDuplicate: 50} {
		if found[err] < least {
			t.Errorf("errors that were found: %v", found)
		}
	}
}

// P10.3 and P10.4: random sources with some fields changed.
func TestCompileRandom(t *testing.T) {
	r := rand.New(rand.NewSource(5))
	found := map[api.Errno]int{}
	for range 1500 {
		s, _ := described(randomFleet(r))
		placed(&s)
		for range r.Intn(4) {
			change(r, &s)
		}
		found[checkCompile(t, "random", s).err]++
	}
	for err, least := range map[api.Errno]int{api.OK: 300, api.ErrArg: 200, api.ErrRange: 100, api.ErrName: 50} {
		if found[err] < least {
			t.Errorf("errors that were found: %v", found)
		}
	}
}

// placed gives every declaration a place of its own.
func placed(s *api.Source) {
	line := 0
	next := func() api.Pos {
		line++
		return api.Pos{Line: line, Col: 100 - line}
	}
	for i := range s.Laws {
		s.Laws[i].Pos = next()
	}
	for i := range s.Models {
		s.Models[i].Pos = next()
	}
	for i := range s.Nodes {
		s.Nodes[i].Pos = next()
	}
	for i := range s.Policies {
		s.Policies[i].Pos = next()
	}
	for i := range s.Volumes {
		s.Volumes[i].Pos = next()
	}
}

// P10.3: positions change nothing in the fleet.
func TestCompilePositions(t *testing.T) {
	a, b := sample(t), parse(t, strings.ReplaceAll(whole, " ", " # x\n "))
	placed(&a)
	if !fleet.Equal(compile(a).fleet, compile(b).fleet) || reflect.DeepEqual(a, b) {
		t.Error("the fleet has changed")
	}
}
