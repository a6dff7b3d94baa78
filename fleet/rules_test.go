package fleet_test

import (
	"cmp"
	"math"
	"math/rand"
	"reflect"
	"runtime"
	"slices"
	"strings"
	"testing"

	"drydock/api"
	"drydock/fleet"
)

// memory is a row of bytes in memory: where it begins, and where it ends.
type memory struct{ from, to uintptr }

// memoryOf returns the memory of the slices in a value, with all their capacity.
func memoryOf(v reflect.Value) []memory {
	var out []memory
	switch v.Kind() {
	case reflect.Slice:
		from := v.Pointer()
		out = append(out, memory{from, from + uintptr(v.Cap())*v.Type().Elem().Size()})
		fallthrough
	case reflect.Array:
		for i := range v.Len() {
			out = append(out, memoryOf(v.Index(i))...)
		}
	case reflect.Struct:
		for i := range v.NumField() {
			out = append(out, memoryOf(v.Field(i))...)
		}
	}
	return out
}

// checkApart checks that the lists in the values share no memory.
func checkApart(t *testing.T, values ...any) {
	t.Helper()
	var list []memory
	for _, v := range values {
		list = append(list, memoryOf(reflect.ValueOf(v))...)
	}
	list = slices.DeleteFunc(list, func(m memory) bool { return m.from == m.to })
	slices.SortFunc(list, func(a, b memory) int { return cmp.Compare(a.from, b.from) })
	for i := 1; i < len(list); i++ {
		if list[i].from < list[i-1].to {
			t.Fatal("two lists share memory")
		}
	}
	runtime.KeepAlive(values)
}

// R2: results share no memory with arguments, with each other, or with earlier ones.
func TestPartsApart(t *testing.T) {
	r := rand.New(rand.NewSource(12))
	for range 150 {
		f := randomFleet(r)
		s, _ := described(f)
		checkApart(t, f, s)
		a, b := compile(s), compile(s)
		c, _ := fleet.Source(f)
		d, _ := fleet.Source(f)
		checkApart(t, f, s, a.fleet, b.fleet, c, d)
	}
}

// R2 and R6: no call changes its arguments, and each gives the same result again, whatever became of the first one.
func TestArgumentsKept(t *testing.T) {
	r := rand.New(rand.NewSource(13))
	for i := range 300 {
		f := randomFleet(r)
		s, _ := described(f)
		if i%2 == 0 {
			change(r, &f)
			change(r, &s)
		}
		keptF, keptS := clone(f), clone(s)
		first, source, ok := compile(s), "", fleet.Validate(f)
		c, err := fleet.Source(f)
		source = keyOf(c)
		text := first.String()
		equal, valid := fleet.Equal(f, first.fleet), len(f.Laws) > 0 && fleet.ValidLaw(f.Laws[0])
		overwrite(reflect.ValueOf(&c).Elem())
		overwrite(reflect.ValueOf(&first.fleet).Elem())
		second := compile(s)
		d, err2 := fleet.Source(f)
		if second.String() != text || keyOf(d) != source || err2 != err || fleet.Validate(f) != ok {
			t.Error("two results of one call")
		}
		if fleet.Equal(f, second.fleet) != equal || valid != (len(f.Laws) > 0 && fleet.ValidLaw(f.Laws[0])) {
			t.Error("two answers to one question")
		}
		if !reflect.DeepEqual(f, keptF) || !reflect.DeepEqual(s, keptS) {
			t.Error("an argument was changed")
		}
	}
}

// overwrite changes all memory of a value, also that behind the elements of its slices.
func overwrite(v reflect.Value) {
	switch v.Kind() {
	case reflect.Struct:
		for i := range v.NumField() {
			overwrite(v.Field(i))
		}
	case reflect.Array:
		for i := range v.Len() {
			overwrite(v.Index(i))
		}
	case reflect.Slice:
		v.SetLen(v.Cap())
		for i := range v.Len() {
			overwrite(v.Index(i))
		}
	case reflect.Int:
		v.SetInt(-7)
	case reflect.Uint32:
		v.SetUint(77)
	case reflect.String:
		v.SetString("overwritten")
	case reflect.Bool:
		v.SetBool(true)
	}
}

// R3: nil and empty lists are the same in arguments.
func TestEmptyLists(t *testing.T) {
	empty := api.Source{Extent: 1, Laws: []api.SourceLaw{}, Models: []api.SourceModel{}, Nodes: []api.SourceNode{}, Policies: []api.SourcePolicy{}, Volumes: []api.SourceVolume{}}
	if got := compile(empty); got.err != api.OK || got.String() != compile(api.Source{Extent: 1}).String() {
		t.Errorf("%v", got)
	}
	f := api.Fleet{Extent: 1, Laws: []api.Law{}, Models: []api.Model{}, Domains: []api.Domain{{Parent: -1, Shock: ratio(0, 1)}}, Drives: []api.Drive{}, Policies: []api.Policy{}, Volumes: []api.Volume{}}
	checkValidate(t, "empty lists", f, true)
	s := sample(t)
	s.Policies[0].Models = []string{}
	checkError(t, "no models", s, api.ErrArg, placeOf(t, "policy gold"))
}

// R1: every call ends, whatever the arguments are.
func TestAnyArguments(t *testing.T) {
	const many = 1 << 17
	s := sample(t)
	s.Nodes = make([]api.SourceNode, many)
	for i := range s.Nodes {
		s.Nodes[i] = api.SourceNode{Level: 6, Name: "n"}
	}
	if got := compile(s); got.err != api.ErrArg {
		t.Errorf("many nodes of level 6: %v", got.err)
	}
	s = sample(t)
	s.Policies[0].Models = strings.Split(strings.Repeat("disk-1 ", many)+"disk-1", " ")
	checkError(t, "many models", s, api.ErrDuplicate, placeOf(t, "policy gold"))
	s.Policies[0].Models = []string{"disk-1"}
	s.Policies[0].Repair = make([]api.Frac, many)
	checkError(t, "many repairs", s, api.ErrRange, placeOf(t, "policy gold"))
	f := sampleFleet()
	f.Domains = slices.Repeat(f.Domains, many/8)
	f.Drives = make([]api.Drive, many)
	f.Policies[0].Models = make([]int, many)
	checkValidate(t, "many parts", f, false)
	if !fleet.Equal(f, f) || fleet.ValidLaw(api.Law{Start: make([]api.Frac, many), Exit: make([]api.Frac, many), Rates: make([][]api.Frac, many)}) {
		t.Error("many parts")
	}
	for _, n := range []int{math.MinInt, -1, 0, 1, math.MaxInt} {
		f, s := sampleFleet(), sample(t)
		for _, p := range append(places(reflect.ValueOf(&f).Elem(), ""), places(reflect.ValueOf(&s).Elem(), "")...) {
			if p.value.Kind() == reflect.Int {
				p.value.SetInt(int64(n))
			}
		}
		checkValidate(t, "one number everywhere", f, false)
		checkCompile(t, "one number everywhere", s)
		if _, err := fleet.Source(f); err != api.ErrArg {
			t.Errorf("Source with %d everywhere: error %d", n, err)
		}
	}
}
