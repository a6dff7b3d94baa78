package fleet_test

import (
	"math/rand"
	"slices"
	"testing"

	"drydock/api"
	"drydock/fleet"
	"drydock/syntax"
)

// P10.6: what Compile returns is valid, and its source is the one that was compiled.
func TestCompiledIsValid(t *testing.T) {
	r := rand.New(rand.NewSource(8))
	for range 400 {
		s, _ := described(randomFleet(r))
		placed(&s)
		got := compile(s)
		if got.err != api.OK || fleet.Validate(got.fleet) != api.OK {
			t.Fatalf("%v", got)
		}
		back, err := fleet.Source(got.fleet)
		if err != api.OK || !syntax.Equal(back, s) {
			t.Errorf("%+v\nwas compiled from\n%+v", back, s)
		}
	}
	s := sample(t)
	eachVariant(&s, func(name string) {
		if got := compile(s); got.err == api.OK && fleet.Validate(got.fleet) != api.OK {
			t.Errorf("%s: not valid", name)
		}
	})
}

// renumbered returns f with its domains and drives in depth-first order.
func renumbered(f api.Fleet) api.Fleet {
	numbers := map[int]int{0: 0}
	out := clone(f)
	out.Domains, out.Drives = []api.Domain{f.Domains[0]}, nil
	for _, i := range depthFirst(f) {
		if i >= len(f.Domains) {
			d := f.Drives[i-len(f.Domains)]
			d.Machine = numbers[d.Machine]
			out.Drives = append(out.Drives, d)
			continue
		}
		numbers[i] = len(out.Domains)
		d := f.Domains[i]
		d.Parent = numbers[d.Parent]
		out.Domains = append(out.Domains, d)
	}
	return out
}

// P10.6: the source of a valid fleet is compiled to the fleet in depth-first order.
func TestSourceCompiled(t *testing.T) {
	r := rand.New(rand.NewSource(9))
	found := map[bool]int{}
	for range 400 {
		f := randomFleet(r)
		s, err := fleet.Source(f)
		got := compile(s)
		want := renumbered(f)
		if err != api.OK || got.err != api.OK || !fleet.Equal(got.fleet, want) || keyOf(got.fleet) != keyOf(want) {
			t.Errorf("%s", unlike(keyOf(got.fleet), keyOf(want)))
		}
		found[fleet.Equal(got.fleet, f)]++
		again, err := fleet.Source(got.fleet)
		if twice := compile(again); err != api.OK || twice.String() != got.String() {
			t.Errorf("a fleet in depth-first order has changed: %s", unlike(twice.String(), got.String()))
		}
	}
	if found[true] < 10 || found[false] < 100 {
		t.Errorf("fleets that stayed as they were and that did not: %v", found)
	}
	if got := compile(unplaced(sample(t))); !fleet.Equal(got.fleet, sampleFleet()) {
		t.Errorf("the sample: %v", got)
	}
}

// P10.6: the same by way of a text.
func TestThroughText(t *testing.T) {
	r := rand.New(rand.NewSource(10))
	found := map[api.Errno]int{}
	for range 400 {
		f := renumbered(randomFleet(r))
		s, err := fleet.Source(f)
		if err != api.OK {
			t.Fatalf("error %d", err)
		}
		text, err := syntax.Format(s)
		found[err]++
		if err != api.OK {
			continue
		}
		if got := compile(parse(t, text)); got.err != api.OK || !fleet.Equal(got.fleet, f) {
			t.Errorf("%s\nis compiled to %v", text, got)
		}
	}
	if found[api.OK] < 300 || found[api.OK]+found[api.ErrSize] != 400 {
		t.Errorf("errors of Format: %v", found)
	}
}

// P10.6: all orders of a few domains and drives give one source.
func TestOrders(t *testing.T) {
	f := sampleFleet()
	want, _ := fleet.Source(f)
	r := rand.New(rand.NewSource(11))
	for range 200 {
		got, err := fleet.Source(shuffled(r, f))
		if err != api.OK || len(got.Nodes) != len(want.Nodes) {
			t.Fatalf("error %d, %d nodes", err, len(got.Nodes))
		}
		var a, b []string
		for i := range got.Nodes {
			a, b = append(a, got.Nodes[i].Name), append(b, want.Nodes[i].Name)
		}
		slices.Sort(a)
		slices.Sort(b)
		if !slices.Equal(a, b) {
			t.Errorf("%v, want %v", a, b)
		}
		if back := compile(got); back.err != api.OK || fleet.Validate(back.fleet) != api.OK {
			t.Errorf("%v", back)
		}
	}
}

// shuffled returns f with its domains, parents before children, and its drives in another order.
func shuffled(r *rand.Rand, f api.Fleet) api.Fleet {
	out := clone(f)
	numbers := map[int]int{0: 0}
	out.Domains = out.Domains[:1]
	for len(out.Domains) < len(f.Domains) {
		i := 1 + r.Intn(len(f.Domains)-1)
		parent, known := numbers[f.Domains[i].Parent]
		if _, done := numbers[i]; done || !known {
			continue
		}
		numbers[i] = len(out.Domains)
		d := f.Domains[i]
		d.Parent = parent
		out.Domains = append(out.Domains, d)
	}
	for i, k := range r.Perm(len(f.Drives)) {
		out.Drives[i] = f.Drives[k]
		out.Drives[i].Machine = numbers[f.Drives[k].Machine]
	}
	return out
}
