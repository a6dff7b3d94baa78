package syntax_test

import (
	"fmt"
	"math"
	"math/big"
	"reflect"
	"regexp"
	"strings"

	"drydock/api"
)

// The tests write sources as rows of tokens, join these by regular expressions, and compare sources as texts, apart from the program.

var (
	named    = regexp.MustCompile(`\A[A-Za-z][-.0-9A-Za-z]{0,15}\z`)
	unspaced = regexp.MustCompile(` ?([;,])`)
	divided  = regexp.MustCompile(` / `)
	lines    = regexp.MustCompile(`([;{}]) ?`)
	longRow  = regexp.MustCompile(`[0-9]{41}`)
)

// examiner looks for something that cannot be written.
type examiner struct{ found bool }

func (e *examiner) wrong(is bool) { e.found = e.found || is }

func (e *examiner) names(list ...string) {
	for _, s := range list {
		e.wrong(!named.MatchString(s))
	}
}

func (e *examiner) numbers(list ...int) {
	for _, n := range list {
		e.wrong(n < 0 || n > 1000000)
	}
}

func (e *examiner) fracs(list ...api.Frac) {
	for _, x := range list {
		v, ok := value(x)
		e.wrong(!ok || v.Sign() < 0)
	}
}

// rowOf examines a list of fractions that may not be empty.
func (e *examiner) rowOf(list []api.Frac) {
	e.wrong(len(list) == 0)
	e.fracs(list...)
}

// allowed reports whether the node at an index may stand there, in the words of P9.5.
func allowed(nodes []api.SourceNode, i int) bool {
	level := nodes[i].Level
	if level == 1 {
		return true
	}
	for k := i - 1; k >= 0; k-- {
		if nodes[k].Level < level {
			return nodes[k].Level == level-1
		}
	}
	return false
}

// refused reports whether Format has to return ErrArg.
func refused(s api.Source) bool {
	var e examiner
	e.numbers(s.Extent)
	for _, l := range s.Laws {
		e.names(l.Law.Name)
		e.rowOf(l.Law.Start)
		e.wrong(len(l.Law.Rates) == 0)
		for _, row := range l.Law.Rates {
			e.rowOf(row)
		}
		e.rowOf(l.Law.Exit)
	}
	for _, m := range s.Models {
		e.names(m.Name, m.Law)
		e.numbers(m.Extents, m.Port)
	}
	for i, n := range s.Nodes {
		e.names(n.Name)
		e.numbers(n.Uplink)
		e.fracs(n.Shock)
		e.wrong(n.Level < 1 || n.Level > 5 || !allowed(s.Nodes, i))
		if n.Level == 5 {
			e.names(n.Model)
			e.wrong(n.Uplink != 0 || integer(n.Shock.Num).Sign() != 0)
		} else {
			e.wrong(n.Model != "")
		}
	}
	for _, d := range s.Policies {
		e.names(d.Name)
		e.names(d.Models...)
		e.numbers(d.K, d.M, d.Quorum)
		e.numbers(d.Spread[:]...)
		e.wrong(d.Spread[0] != 0 || len(d.Models) == 0)
		e.rowOf(d.Repair)
		e.fracs(d.Target, d.Horizon)
	}
	for _, v := range s.Volumes {
		e.names(v.Name, v.Policy)
	}
	return e.found
}

// row returns the tokens of fractions, with blanks between them.
func row(list ...api.Frac) string {
	var out []string
	for _, x := range list {
		v, _ := value(x)
		out = append(out, strings.Replace(v.RatString(), "/", " / ", 1))
	}
	return strings.Join(out, " ")
}

// nodeTokens returns the tokens of the nodes from the index *next on that stand in a domain of a level.
func nodeTokens(nodes []api.SourceNode, next *int, level int) string {
	out := ""
	for *next < len(nodes) && nodes[*next].Level == level+1 {
		n := nodes[*next]
		*next++
		if n.Level == 5 {
			out += fmt.Sprintf(" drive %s %s ;", n.Name, n.Model)
			continue
		}
		out += fmt.Sprintf(" %s %s uplink %d", []string{"", "site", "room", "rack", "machine"}[n.Level], n.Name, n.Uplink)
		if v, _ := value(n.Shock); v.Sign() > 0 {
			out += " shock " + row(n.Shock)
		}
		out += " {" + nodeTokens(nodes, next, n.Level) + " }"
	}
	return out
}

// canonical returns what Format should return.
func canonical(s api.Source) (string, api.Errno) {
	if refused(s) {
		return "", api.ErrArg
	}
	out := fmt.Sprintf("extent %d ;", s.Extent)
	for _, l := range s.Laws {
		var rates []string
		for _, r := range l.Law.Rates {
			rates = append(rates, row(r...))
		}
		out += fmt.Sprintf(" law %s { start %s ; rates %s ; exit %s ; }", l.Law.Name, row(l.Law.Start...), strings.Join(rates, " , "), row(l.Law.Exit...))
	}
	for _, m := range s.Models {
		out += fmt.Sprintf(" model %s { extents %d ; port %d ; law %s ; }", m.Name, m.Extents, m.Port, m.Law)
	}
	out += nodeTokens(s.Nodes, new(int), 0)
	for _, d := range s.Policies {
		out += fmt.Sprintf(" policy %s { code %d + %d ; quorum %d ;", d.Name, d.K, d.M, d.Quorum)
		for i, word := range []string{"site", "room", "rack", "machine"} {
			if d.Spread[i+1] != 0 {
				out += fmt.Sprintf(" most %d %s ;", d.Spread[i+1], word)
			}
		}
		out += fmt.Sprintf(" on %s ; repair %s ; target %s in %s ; }", strings.Join(d.Models, " "), row(d.Repair...), row(d.Target), row(d.Horizon))
	}
	for _, v := range s.Volumes {
		out += fmt.Sprintf(" volume %s %s ;", v.Name, v.Policy)
	}
	out = unspaced.ReplaceAllString(divided.ReplaceAllString(out, "/"), "$1")
	out = lines.ReplaceAllString(out, "$1\n")
	if len(out) > 8000 || longRow.MatchString(out) {
		return "", api.ErrSize
	}
	return out, api.OK
}

// key returns a text that is the same for sources that are equal in the words of P9.6.
func key(v reflect.Value) string {
	switch x := v.Interface().(type) {
	case api.Pos:
		return ""
	case api.Frac:
		if r, ok := value(x); ok {
			return r.RatString()
		}
		return fmt.Sprintf("no fraction %v %v %v", x.Neg, x.Num, x.Den)
	}
	var out []string
	switch v.Kind() {
	case reflect.Struct:
		for i := range v.NumField() {
			out = append(out, key(v.Field(i)))
		}
	case reflect.Slice, reflect.Array:
		for i := range v.Len() {
			out = append(out, key(v.Index(i)))
		}
	default:
		return fmt.Sprintf("%#v", v.Interface())
	}
	return fmt.Sprintf("{%s}", strings.Join(out, ", "))
}

// keyOf returns the key of a source.
func keyOf(s api.Source) string {
	return key(reflect.ValueOf(s))
}

// place is a part of a source, with values that it may have instead of its own.
type place struct {
	path  string
	value reflect.Value
	other []any
}

// places returns all parts of a source but the positions. A list is a part, and so is each of its elements.
func places(v reflect.Value, path string) []place {
	switch v.Interface().(type) {
	case api.Pos:
		return nil
	case api.Frac:
		return []place{{path, v, otherFracs()}}
	case int:
		return []place{{path, v, []any{-1, 0, 1, 2, 3, 4, 5, 6, 999999, 1000000, 1000001, 1 << 32, math.MinInt, math.MaxInt}}}
	case string:
		return []place{{path, v, []any{"", "a", "law", "9", "9a", "-a", ".a", "a b", "a;", ";", "a#", "a\n", "\xe4", "a\xe4", strings.Repeat("n", 16), strings.Repeat("n", 17)}}}
	}
	var out []place
	switch v.Kind() {
	case reflect.Struct:
		for i := range v.NumField() {
			out = append(out, places(v.Field(i), path+"."+v.Type().Field(i).Name)...)
		}
	case reflect.Slice:
		out = append(out, place{path, v, otherLists(v)})
		fallthrough
	case reflect.Array:
		for i := range v.Len() {
			out = append(out, places(v.Index(i), fmt.Sprintf("%s[%d]", path, i))...)
		}
	}
	return out
}

// otherFracs returns fractions of every kind.
func otherFracs() []any {
	one, ten := big.NewInt(1), big.NewInt(10)
	digits := func(n int64) api.Nat { return nat(new(big.Int).Exp(ten, big.NewInt(n-1), nil)) }
	power := func(n uint) api.Nat { return nat(new(big.Int).Lsh(one, n)) }
	return []any{
		api.Frac{}, api.Frac{Neg: true}, api.Frac{Num: api.Nat{1}}, api.Frac{Num: api.Nat{1}, Den: api.Nat{0}}, api.Frac{Num: api.Nat{1, 0}, Den: api.Nat{0}},
		api.Frac{Den: api.Nat{1}}, api.Frac{Neg: true, Den: api.Nat{1}}, api.Frac{Neg: true, Num: api.Nat{0, 0}, Den: api.Nat{7, 0}},
		api.Frac{Num: api.Nat{1}, Den: api.Nat{2}}, api.Frac{Num: api.Nat{2, 0}, Den: api.Nat{4, 0, 0}}, api.Frac{Neg: true, Num: api.Nat{1}, Den: api.Nat{2}}, api.Frac{Num: api.Nat{6}, Den: api.Nat{3}},
		api.Frac{Num: power(32 * 128), Den: api.Nat{1}}, api.Frac{Num: api.Nat{1}, Den: power(32 * 128)}, api.Frac{Num: append(api.Nat{3}, make(api.Nat, 200)...), Den: api.Nat{1}},
		api.Frac{Num: power(32*128 - 1), Den: power(32*128 - 1)}, api.Frac{Num: power(32*128 - 1), Den: power(32*128 - 2)}, api.Frac{Num: power(32*128 - 1), Den: api.Nat{1}},
		api.Frac{Num: digits(40), Den: api.Nat{1}}, api.Frac{Num: digits(41), Den: api.Nat{1}}, api.Frac{Num: api.Nat{1}, Den: digits(40)}, api.Frac{Num: api.Nat{1}, Den: digits(41)},
		api.Frac{Num: digits(41), Den: api.Nat{10}}, api.Frac{Num: api.Nat{10}, Den: digits(41)}, api.Frac{Num: digits(60), Den: digits(50)}, api.Frac{Neg: true, Num: digits(41), Den: digits(41)},
	}
}

// otherLists returns lists made of the elements of a list.
func otherLists(v reflect.Value) []any {
	n := v.Len()
	out := []any{reflect.Zero(v.Type()).Interface(), reflect.MakeSlice(v.Type(), 0, 3).Interface()}
	if n == 0 {
		return out
	}
	double := reflect.AppendSlice(reflect.AppendSlice(reflect.MakeSlice(v.Type(), 0, 2*n), v), v)
	turned := reflect.AppendSlice(reflect.MakeSlice(v.Type(), 0, n), v)
	swap := reflect.Swapper(turned.Interface())
	for i := range n / 2 {
		swap(i, n-1-i)
	}
	out = append(out, double.Interface(), double.Slice(0, n+1).Interface(), turned.Interface())
	for i := range n {
		less := reflect.AppendSlice(reflect.MakeSlice(v.Type(), 0, n), v.Slice(0, i))
		out = append(out, reflect.AppendSlice(less, v.Slice(i+1, n)).Interface())
	}
	return out
}

// eachVariant puts every other value into every part of a source, one at a time, and calls try.
func eachVariant(s *api.Source, try func(name string)) {
	for _, p := range places(reflect.ValueOf(s).Elem(), "source") {
		kept := reflect.New(p.value.Type()).Elem()
		kept.Set(p.value)
		for i, x := range p.other {
			p.value.Set(reflect.ValueOf(x))
			try(fmt.Sprintf("%s with value %d", p.path, i))
		}
		p.value.Set(kept)
	}
}
