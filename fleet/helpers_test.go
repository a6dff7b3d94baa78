package fleet_test

import (
	"fmt"
	"math/big"
	"reflect"
	"strings"
	"testing"

	"drydock/api"
	"drydock/fleet"
	"drydock/syntax"
)

// answer is what Compile returns.
type answer struct {
	fleet api.Fleet
	err   api.Errno
	pos   api.Pos
}

func compile(s api.Source) answer {
	f, err, pos := fleet.Compile(s)
	return answer{f, err, pos}
}

// String writes every field, nil and empty slices alike.
func (a answer) String() string {
	return fmt.Sprintf("error %d at %d:%d, %+v", a.err, a.pos.Line, a.pos.Col, a.fleet)
}

// checkCompile compares Compile with the model and returns what it returned.
func checkCompile(t *testing.T, name string, s api.Source) answer {
	t.Helper()
	got, want := compile(s), model(s)
	if got.String() != want.String() {
		t.Errorf("%s: Compile: %s", name, unlike(got.String(), want.String()))
	}
	return got
}

// checkError checks that Compile returns an error, its position and nothing else.
func checkError(t *testing.T, name string, s api.Source, err api.Errno, pos api.Pos) {
	t.Helper()
	if got, want := compile(s), (answer{err: err, pos: pos}); !reflect.DeepEqual(got, want) {
		t.Errorf("%s: %v, want %v", name, got, want)
	}
}

// checkValidate checks that Validate accepts a fleet or refuses it, and returns whether it does.
func checkValidate(t *testing.T, name string, f api.Fleet, ok bool) bool {
	t.Helper()
	want := api.OK
	if !ok {
		want = api.ErrArg
	}
	got := fleet.Validate(f)
	if got != want {
		t.Errorf("%s: Validate returns %d, want %d", name, got, want)
	}
	return got == api.OK
}

// checkSource compares Source with the model and returns what it returned.
func checkSource(t *testing.T, name string, f api.Fleet) (api.Source, api.Errno) {
	t.Helper()
	got, err := fleet.Source(f)
	want, wantErr := described(f)
	if a, b := fmt.Sprintf("error %d, %+v", err, got), fmt.Sprintf("error %d, %+v", wantErr, want); a != b {
		t.Errorf("%s: Source: %s", name, unlike(a, b))
	}
	return got, err
}

// checkEqual compares Equal, in both orders, with the keys, and returns the result.
func checkEqual(t *testing.T, name string, a, b api.Fleet) bool {
	t.Helper()
	got, want := fleet.Equal(a, b), keyOf(a) == keyOf(b)
	if got != want || fleet.Equal(b, a) != want {
		t.Errorf("%s: Equal is not %t: %s", name, want, unlike(keyOf(a), keyOf(b)))
	}
	return got
}

// unlike shows where two texts begin to differ.
func unlike(got, want string) string {
	i := 0
	for i < min(len(got), len(want)) && got[i] == want[i] {
		i++
	}
	return fmt.Sprintf("behind %d equal bytes\n%.300s\nwant\n%.300s", i, got[max(i-100, 0):], want[max(i-100, 0):])
}

// nat returns the limbs of a number.
func nat(v *big.Int) api.Nat {
	var out api.Nat
	for rest := new(big.Int).Set(v); rest.Sign() > 0; rest.Rsh(rest, 32) {
		out = append(out, uint32(new(big.Int).And(rest, big.NewInt(1<<32-1)).Uint64()))
	}
	return out
}

// frac returns a fraction in lowest terms.
func frac(x *big.Rat) api.Frac {
	return api.Frac{Neg: x.Sign() < 0, Num: nat(new(big.Int).Abs(x.Num())), Den: nat(x.Denom())}
}

func ratio(num, den int64) api.Frac {
	return frac(big.NewRat(num, den))
}

// row returns the fractions of a text with blanks between them.
func row(text string) []api.Frac {
	var out []api.Frac
	for _, s := range strings.Fields(text) {
		x, ok := new(big.Rat).SetString(s)
		if !ok {
			panic("no fraction: " + s)
		}
		out = append(out, frac(x))
	}
	return out
}

// loose returns a fraction that is not in lowest terms and has limbs 0 at its ends.
func loose(num, den, factor int64) api.Frac {
	f := big.NewInt(factor)
	return api.Frac{Num: append(nat(f.Mul(f, big.NewInt(num))), 0), Den: append(nat(f.Mul(big.NewInt(factor), big.NewInt(den))), 0, 0)}
}

// integer returns the value of limbs.
func integer(a api.Nat) *big.Int {
	out := new(big.Int)
	for i := range a {
		out.Lsh(out, 32).Or(out, big.NewInt(int64(a[len(a)-1-i])))
	}
	return out
}

// value returns the value of a fraction, or false if it is not valid.
func value(x api.Frac) (*big.Rat, bool) {
	num, den := integer(x.Num), integer(x.Den)
	if den.Sign() == 0 || num.BitLen() > 32*128 || den.BitLen() > 32*128 {
		return nil, false
	}
	out := new(big.Rat).SetFrac(num, den)
	if x.Neg {
		out.Neg(out)
	}
	return out, true
}

// clone returns a copy of v, with nil and empty slices as they are.
func clone[T any](v T) T {
	return cloneValue(reflect.ValueOf(v)).Interface().(T)
}

func cloneValue(v reflect.Value) reflect.Value {
	out := reflect.New(v.Type()).Elem()
	out.Set(v)
	switch v.Kind() {
	case reflect.Struct:
		for i := range v.NumField() {
			out.Field(i).Set(cloneValue(v.Field(i)))
		}
	case reflect.Slice:
		if !v.IsNil() {
			out.Set(reflect.MakeSlice(v.Type(), v.Len(), v.Len()))
		}
		for i := range v.Len() {
			out.Index(i).Set(cloneValue(v.Index(i)))
		}
	}
	return out
}

// key returns a text that is the same for values that are equal in the words of P9.6.
func key(v reflect.Value) string {
	if x, ok := v.Interface().(api.Frac); ok {
		if r, ok := value(x); ok {
			return r.RatString()
		}
		return fmt.Sprintf("no fraction %v %v %v", x.Neg, x.Num, x.Den)
	}
	if _, ok := v.Interface().(api.Pos); ok {
		return ""
	}
	var out []string
	switch v.Kind() {
	case reflect.Struct:
		for i := range v.NumField() {
			out = append(out, key(v.Field(i)))
		}
	case reflect.Slice, reflect.Array:
		for i := range v.Len() {
			out = append(out, key(v.Index(i)))
		}
	default:
		return fmt.Sprintf("%#v", v.Interface())
	}
	return fmt.Sprintf("{%s}", strings.Join(out, ", "))
}

// keyOf returns the key of a fleet or of a source.
func keyOf(v any) string {
	return key(reflect.ValueOf(v))
}

// whole is a fleet with every part of the grammar. Its domains and drives stand in depth-first order.
const whole = `extent 2;
law wear { start 1 0/3; rates 0 1/10, 6/4 0; exit 0 1/5; }
law flat { start 1; rates 0; exit 2; }
model disk-1 { extents 8; port 4; law flat; }
model disk.2 { extents 16; port 64; law wear; }
model disk.3 { extents 1; port 1; law flat; }
site s uplink 9 shock 1/1000 {
	room s.r uplink 8 {
		rack s.r.k uplink 7 shock 4/2 {
			machine m-1 uplink 6 { drive d-1 disk-1; drive d-2 disk.2; }
			machine m-2 uplink 5 { }
		}
		rack s.r.l uplink 64 { machine m-3 uplink 1 { drive d-3 disk.3; } }
	}
	room s.q uplink 4 shock 0 { }
}
site t uplink 3 {
	room t.r uplink 2 { rack t.r.k uplink 1 { machine m-4 uplink 10 shock 3/7 { drive d-4 disk-1; } } }
}
policy gold { code 2 + 2; quorum 3; most 1 site; most 2 room; most 8 machine; on disk.2 disk-1; repair 1/2 4/6; target 1/1000000 in 8760; }
policy tin { code 1 + 0; quorum 1; on disk.3; repair 2; target 0 in 0/5; }
volume v tin;
volume w gold;
volume x tin;
`

// sample returns the source of whole.
func sample(t *testing.T) api.Source {
	t.Helper()
	s, err, pos := syntax.Parse(whole)
	if err != api.OK {
		t.Fatalf("the sample: error %d at %v", err, pos)
	}
	return s
}

// sampleFleet returns the fleet of whole, written out.
func sampleFleet() api.Fleet {
	return api.Fleet{
		Extent: 2,
		Laws: []api.Law{
			{Name: "wear", Start: row("1 0"), Rates: [][]api.Frac{row("0 1/10"), row("3/2 0")}, Exit: row("0 1/5")},
			{Name: "flat", Start: row("1"), Rates: [][]api.Frac{row("0")}, Exit: row("2")},
		},
		Models: []api.Model{{Name: "disk-1", Extents: 8, Port: 4, Law: 1}, {Name: "disk.2", Extents: 16, Port: 64}, {Name: "disk.3", Extents: 1, Port: 1, Law: 1}},
		Domains: []api.Domain{
			{Parent: -1, Shock: ratio(0, 1)},
			{Name: "s", Level: 1, Parent: 0, Uplink: 9, Shock: ratio(1, 1000)},
			{Name: "s.r", Level: 2, Parent: 1, Uplink: 8, Shock: ratio(0, 1)},
			{Name: "s.r.k", Level: 3, Parent: 2, Uplink: 7, Shock: ratio(2, 1)},
			{Name: "m-1", Level: 4, Parent: 3, Uplink: 6, Shock: ratio(0, 1)},
			{Name: "m-2", Level: 4, Parent: 3, Uplink: 5, Shock: ratio(0, 1)},
			{Name: "s.r.l", Level: 3, Parent: 2, Uplink: 64, Shock: ratio(0, 1)},
			{Name: "m-3", Level: 4, Parent: 6, Uplink: 1, Shock: ratio(0, 1)},
			{Name: "s.q", Level: 2, Parent: 1, Uplink: 4, Shock: ratio(0, 1)},
			{Name: "t", Level: 1, Parent: 0, Uplink: 3, Shock: ratio(0, 1)},
			{Name: "t.r", Level: 2, Parent: 9, Uplink: 2, Shock: ratio(0, 1)},
			{Name: "t.r.k", Level: 3, Parent: 10, Uplink: 1, Shock: ratio(0, 1)},
			{Name: "m-4", Level: 4, Parent: 11, Uplink: 10, Shock: ratio(3, 7)},
		},
		Drives: []api.Drive{{Name: "d-1", Model: 0, Machine: 4}, {Name: "d-2", Model: 1, Machine: 4}, {Name: "d-3", Model: 2, Machine: 7}, {Name: "d-4", Model: 0, Machine: 12}},
		Policies: []api.Policy{
			{Name: "gold", K: 2, M: 2, Quorum: 3, Spread: [5]int{0, 1, 2, 0, 8}, Models: []int{1, 0}, Repair: row("1/2 2/3"), Target: ratio(1, 1000000), Horizon: ratio(8760, 1)},
			{Name: "tin", K: 1, M: 0, Quorum: 1, Models: []int{2}, Repair: row("2"), Target: ratio(0, 1), Horizon: ratio(0, 1)},
		},
		Volumes: []api.Volume{{Name: "v", Policy: 1}, {Name: "w", Policy: 0}, {Name: "x", Policy: 1}},
	}
}
