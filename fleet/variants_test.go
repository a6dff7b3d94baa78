package fleet_test

import (
	"fmt"
	"math"
	"math/big"
	"reflect"
	"strings"

	"drydock/api"
)

// place is a part of a fleet or of a source.
type place struct {
	path  string
	value reflect.Value
}

// places returns all parts of a value but the positions. A list is a part, and so is each of its elements.
func places(v reflect.Value, path string) []place {
	switch v.Interface().(type) {
	case api.Pos:
		return nil
	case api.Frac, int, string:
		return []place{{path, v}}
	}
	var out []place
	switch v.Kind() {
	case reflect.Struct:
		for i := range v.NumField() {
			out = append(out, places(v.Field(i), path+"."+v.Type().Field(i).Name)...)
		}
	case reflect.Slice:
		out = append(out, place{path, v})
		fallthrough
	case reflect.Array:
		for i := range v.Len() {
			out = append(out, places(v.Index(i), fmt.Sprintf("%s[%d]", path, i))...)
		}
	}
	return out
}

// others returns values that the part may have instead of its own.
func (p place) others() []any {
	switch p.value.Interface().(type) {
	case api.Frac:
		return otherFracs()
	case int:
		return []any{-1, 0, 1, 2, 3, 4, 5, 6, 7, 8, 9, 10, 12, 13, 16, 17, 64, 65, 1 << 32, math.MinInt, math.MaxInt}
	case string:
		return []any{"", "a", "9", "a b", "\xe4", strings.Repeat("n", 16), strings.Repeat("n", 17), "wear", "flat", "disk-1", "disk.2", "s", "m-1", "t.r.k", "d-1", "d-4", "gold", "tin", "v", "w"}
	}
	return otherLists(p.value)
}

// otherFracs returns fractions of every kind.
func otherFracs() []any {
	power := func(n uint) api.Nat { return nat(new(big.Int).Lsh(big.NewInt(1), n)) }
	const top = 1<<32 - 1
	return []any{
		api.Frac{}, api.Frac{Neg: true}, api.Frac{Num: api.Nat{1}}, api.Frac{Num: api.Nat{1, 0}, Den: api.Nat{0}}, api.Frac{Num: api.Nat{2}},
		api.Frac{Den: api.Nat{1}}, api.Frac{Neg: true, Den: api.Nat{1}}, api.Frac{Neg: true, Num: api.Nat{0, 0}, Den: api.Nat{7, 0}}, api.Frac{Den: api.Nat{0, 1}},
		ratio(1, 1), ratio(1, 2), ratio(-1, 2), ratio(-1, top), ratio(2, 1), ratio(1, 1000), ratio(3, 7),
		ratio(top, 1), ratio(top+1, 1), ratio(1, top), ratio(1, top+1), ratio(top, top-1), ratio(top-1, top), ratio(top+1, top), ratio(top, top+1), ratio(top+2, top+4),
		loose(1, 2, 1), loose(1, 1, 1<<40), loose(top, top-1, 1<<60), loose(1, 5, top+2),
		api.Frac{Num: power(32*128 - 1), Den: power(32*128 - 1)}, api.Frac{Num: power(32 * 128), Den: power(32 * 128)}, api.Frac{Num: power(32*128 - 1), Den: power(32*128 - 2)}, api.Frac{Num: power(32*128 - 1), Den: api.Nat{1}},
		api.Frac{Num: append(api.Nat{1}, make(api.Nat, 200)...), Den: api.Nat{2}},
	}
}

// otherLists returns lists made of the elements of a list.
func otherLists(v reflect.Value) []any {
	n := v.Len()
	out := []any{reflect.Zero(v.Type()).Interface(), reflect.MakeSlice(v.Type(), 0, 3).Interface(), reflect.MakeSlice(v.Type(), 1, 1).Interface()}
	if n == 0 {
		return out
	}
	double := reflect.AppendSlice(reflect.AppendSlice(reflect.MakeSlice(v.Type(), 0, 2*n), v), v)
	turned := reflect.AppendSlice(reflect.MakeSlice(v.Type(), 0, n), v)
	swap := reflect.Swapper(turned.Interface())
	for i := range n / 2 {
		swap(i, n-1-i)
	}
	out = append(out, double.Interface(), double.Slice(0, n+1).Interface(), turned.Interface())
	for i := range n {
		less := reflect.AppendSlice(reflect.MakeSlice(v.Type(), 0, n), v.Slice(0, i))
		out = append(out, reflect.AppendSlice(less, v.Slice(i+1, n)).Interface())
	}
	return out
}

// eachVariant puts every other value into every part of what v points to, one at a time, and calls check.
func eachVariant(v any, check func(name string)) {
	for _, p := range places(reflect.ValueOf(v).Elem(), "") {
		kept := reflect.New(p.value.Type()).Elem()
		kept.Set(p.value)
		for i, x := range p.others() {
			p.value.Set(reflect.ValueOf(x))
			check(fmt.Sprintf("%s with value %d", p.path, i))
		}
		p.value.Set(kept)
	}
}
