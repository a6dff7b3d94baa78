package syntax_test

import (
	"fmt"
	"math/big"
	"reflect"
	"strings"
	"testing"

	"drydock/api"
	"drydock/lexer"
	"drydock/syntax"
)

// answer is what Parse returns.
type answer struct {
	source api.Source
	err    api.Errno
	pos    api.Pos
}

func parse(text string) answer {
	s, err, pos := syntax.Parse(text)
	return answer{s, err, pos}
}

// String writes every field, nil and empty slices alike.
func (a answer) String() string {
	return fmt.Sprintf("error %d at %d:%d, %+v", a.err, a.pos.Line, a.pos.Col, a.source)
}

// builder builds the source of the tokens of a text from their labels.
type builder struct {
	s     api.Source
	level int
	bound int
	given map[string]bool
	next  func() *api.Frac // the place of the next fraction
	frac  *api.Frac
	num   *big.Int
}

func (b *builder) law() *api.Law             { return &b.s.Laws[len(b.s.Laws)-1].Law }
func (b *builder) model() *api.SourceModel   { return &b.s.Models[len(b.s.Models)-1] }
func (b *builder) node() *api.SourceNode     { return &b.s.Nodes[len(b.s.Nodes)-1] }
func (b *builder) policy() *api.SourcePolicy { return &b.s.Policies[len(b.s.Policies)-1] }

// list makes the next fractions elements of a list.
func (b *builder) list(l *[]api.Frac) {
	b.next = func() *api.Frac {
		*l = append(*l, api.Frac{})
		return &(*l)[len(*l)-1]
	}
}

// row makes the next fractions a new row of the law.
func (b *builder) row() {
	l := b.law()
	l.Rates = append(l.Rates, nil)
	b.list(&l.Rates[len(l.Rates)-1])
}

// one makes the next fraction x.
func (b *builder) one(x *api.Frac) {
	b.next = func() *api.Frac { return x }
}

// take takes a token at the place of the grammar with the label.
func (b *builder) take(label string, token api.Token) api.Errno {
	rule, what, _ := strings.Cut(label, " ")
	switch rule {
	case "law":
		b.takeLaw(what, token)
	case "site", "room", "rack", "machine":
		b.level = map[string]int{"site": 1, "room": 2, "rack": 3, "machine": 4}[rule]
	case "policy":
		return b.takePolicy(what, token)
	case "most":
		return b.takeMost(what, token)
	case "frac":
		return b.takeFrac(what, token)
	}
	switch label {
	case "extent NUMBER 1":
		return number(&b.s.Extent, token)
	case "model NAME 1":
		b.s.Models = append(b.s.Models, api.SourceModel{Name: token.Text, Pos: token.Pos})
	case "model NUMBER 1":
		return number(&b.model().Extents, token)
	case "model NUMBER 2":
		return number(&b.model().Port, token)
	case "model NAME 2":
		b.model().Law = token.Text
	case "head NAME 1":
		b.s.Nodes = append(b.s.Nodes, api.SourceNode{Level: b.level, Name: token.Text, Shock: ratio(0, 1), Pos: token.Pos})
	case "head NUMBER 1":
		return number(&b.node().Uplink, token)
	case "head shock":
		b.one(&b.node().Shock)
	case "drive NAME 1":
		b.s.Nodes = append(b.s.Nodes, api.SourceNode{Level: 5, Name: token.Text, Shock: ratio(0, 1), Pos: token.Pos})
	case "drive NAME 2":
		b.node().Model = token.Text
	case "volume NAME 1":
		b.s.Volumes = append(b.s.Volumes, api.SourceVolume{Name: token.Text, Pos: token.Pos})
	case "volume NAME 2":
		b.s.Volumes[len(b.s.Volumes)-1].Policy = token.Text
	}
	return api.OK
}

func (b *builder) takeLaw(what string, token api.Token) {
	switch what {
	case "NAME 1":
		b.s.Laws = append(b.s.Laws, api.SourceLaw{Law: api.Law{Name: token.Text}, Pos: token.Pos})
	case "start":
		b.list(&b.law().Start)
	case "rates", ",":
		b.row()
	case "exit":
		b.list(&b.law().Exit)
	}
}

func (b *builder) takePolicy(what string, token api.Token) api.Errno {
	switch what {
	case "NAME 1":
		b.s.Policies = append(b.s.Policies, api.SourcePolicy{Name: token.Text, Pos: token.Pos})
		b.given = map[string]bool{}
	case "NUMBER 1":
		return number(&b.policy().K, token)
	case "NUMBER 2":
		return number(&b.policy().M, token)
	case "NUMBER 3":
		return number(&b.policy().Quorum, token)
	case "NAME 2":
		b.policy().Models = append(b.policy().Models, token.Text)
	case "repair":
		b.list(&b.policy().Repair)
	case "target":
		b.one(&b.policy().Target)
	case "in":
		b.one(&b.policy().Horizon)
	}
	return api.OK
}

func (b *builder) takeMost(what string, token api.Token) api.Errno {
	level := map[string]int{"site": 1, "room": 2, "rack": 3, "machine": 4}[what]
	switch {
	case what == "NUMBER 1":
		return number(&b.bound, token)
	case level > 0 && b.given[what]:
		return api.ErrDuplicate
	case level > 0:
		b.given[what] = true
		b.policy().Spread[level] = b.bound
	}
	return api.OK
}

func (b *builder) takeFrac(what string, token api.Token) api.Errno {
	value, _ := new(big.Int).SetString(token.Text, 10)
	switch what {
	case "NUMBER 1":
		b.frac, b.num = b.next(), value
		*b.frac = frac(new(big.Rat).SetInt(value))
	case "NUMBER 2":
		if value.Sign() == 0 {
			return api.ErrZero
		}
		*b.frac = frac(new(big.Rat).SetFrac(b.num, value))
	}
	return api.OK
}

// number reads a number as int.
func number(to *int, token api.Token) api.Errno {
	value, _ := new(big.Int).SetString(token.Text, 10)
	if value.Cmp(big.NewInt(1000000)) > 0 {
		return api.ErrSize
	}
	*to = int(value.Int64())
	return api.OK
}

// model returns what Parse should return.
func (g rules) model(text string) answer {
	tokens, err, pos := lexer.Scan(text)
	if err != api.OK {
		return answer{err: err, pos: pos}
	}
	f, b := follower{rules: g, stack: []*expr{g["text"]}}, builder{}
	for _, token := range tokens {
		label, ok := f.step(token)
		if !ok {
			return answer{err: api.ErrSyntax, pos: token.Pos}
		}
		if err := b.take(label, token); err != api.OK {
			return answer{err: err, pos: token.Pos}
		}
	}
	return answer{source: b.s}
}

// check compares Parse with the model and returns what it returned.
func (g rules) check(t *testing.T, text string) answer {
	t.Helper()
	got, want := parse(text), g.model(text)
	if got.String() != want.String() {
		t.Errorf("Parse of %.300q:\n%v\nwant\n%v", text, got, want)
	}
	return got
}

// checkError checks that Parse returns an error, its position and nothing else.
func checkError(t *testing.T, text string, err api.Errno, line, col int) {
	t.Helper()
	want := answer{err: err, pos: api.Pos{Line: line, Col: col}}
	if got := parse(text); !reflect.DeepEqual(got, want) {
		t.Errorf("Parse of %.200q: %v, want %v", text, got, want)
	}
}

// nat returns the limbs of a number.
func nat(v *big.Int) api.Nat {
	var out api.Nat
	for rest := new(big.Int).Set(v); rest.Sign() > 0; rest.Rsh(rest, 32) {
		out = append(out, uint32(new(big.Int).And(rest, big.NewInt(1<<32-1)).Uint64()))
	}
	return out
}

// frac returns a fraction in lowest terms.
func frac(x *big.Rat) api.Frac {
	return api.Frac{Neg: x.Sign() < 0, Num: nat(new(big.Int).Abs(x.Num())), Den: nat(x.Denom())}
}

func ratio(num, den int64) api.Frac {
	return frac(big.NewRat(num, den))
}

// integer returns the value of limbs.
func integer(a api.Nat) *big.Int {
	out := new(big.Int)
	for i := range a {
		out.Lsh(out, 32).Or(out, big.NewInt(int64(a[len(a)-1-i])))
	}
	return out
}

// value returns the value of a fraction, or false if it is not valid.
func value(x api.Frac) (*big.Rat, bool) {
	num, den := integer(x.Num), integer(x.Den)
	if den.Sign() == 0 || num.BitLen() > 32*128 || den.BitLen() > 32*128 {
		return nil, false
	}
	out := new(big.Rat).SetFrac(num, den)
	if x.Neg {
		out.Neg(out)
	}
	return out, true
}

// clone returns a copy of s, with nil and empty slices as they are.
func clone(s api.Source) api.Source {
	return cloneValue(reflect.ValueOf(s)).Interface().(api.Source)
}

func cloneValue(v reflect.Value) reflect.Value {
	out := reflect.New(v.Type()).Elem()
	out.Set(v)
	switch v.Kind() {
	case reflect.Struct:
		for i := range v.NumField() {
			out.Field(i).Set(cloneValue(v.Field(i)))
		}
	case reflect.Slice:
		if !v.IsNil() {
			out.Set(reflect.MakeSlice(v.Type(), v.Len(), v.Len()))
		}
		for i := range v.Len() {
			out.Index(i).Set(cloneValue(v.Index(i)))
		}
	}
	return out
}

// whole is a text in which every part of the grammar occurs, and its canonical form.
const whole = `extent 2;
law wear {
start 1 0/3;
rates 0 1/10, 6/4 0;
exit 0 1/5;
}
law flat {
start 1;
rates 0;
exit 2;
}
model disk-1 {
extents 8;
port 4;
law wear;
}
model disk.2 {
extents 16;
port 64;
law flat;
}
site s uplink 9 shock 1/1000 {
room s.r uplink 8 {
rack s.r.k uplink 7 shock 2 {
machine m-1 uplink 6 {
drive d-1 disk-1;
drive d-2 disk.2;
}
machine m-2 uplink 5 {
}
}
}
room s.q uplink 4 shock 0 {
}
}
site t uplink 3 {
room t.r uplink 2 {
rack t.r.k uplink 1 {
machine m-3 uplink 0 shock 3/7 {
drive d-3 disk-1;
}
}
}
}
policy gold {
code 2 + 1;
quorum 3;
most 1 site;
most 2 room;
most 3 rack;
most 4 machine;
on disk-1 disk.2;
repair 1/2;
target 1/1000000 in 8760;
}
policy tin {
code 1 + 0;
quorum 1;
on disk-1;
repair 1 2/3;
target 0 in 0/5;
}
volume v gold;
volume w tin;
`

// sample returns the source of whole.
func sample(t *testing.T) api.Source {
	t.Helper()
	got := readGrammar().model(whole)
	if got.err != api.OK {
		t.Fatalf("the model of the sample: %v", got)
	}
	return got.source
}
