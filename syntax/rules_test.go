package syntax_test

import (
	"cmp"
	"math/rand"
	"reflect"
	"runtime"
	"slices"
	"strings"
	"testing"
	"unsafe"

	"drydock/api"
	"drydock/syntax"
)

// R6: the same text gives the same source, whatever was read before it and whatever becomes of earlier results.
func TestParseAgain(t *testing.T) {
	r, g := rand.New(rand.NewSource(9)), readGrammar()
	texts := []string{"", "extent 1;", whole, "extent 1; ?", "extent 1 1;", strings.Repeat(" ", 8001)}
	for range 60 {
		texts = append(texts, spread(r, randomTokens(r, g, 2, 50*r.Intn(2))))
	}
	var first []string
	for _, text := range texts {
		got := parse(text)
		first = append(first, got.String())
		overwrite(reflect.ValueOf(&got.source).Elem())
	}
	for i := range texts {
		i = len(texts) - 1 - i
		if got := parse(texts[i]); got.String() != first[i] {
			t.Errorf("%.60q: %v, then %s", texts[i], got, first[i])
		}
	}
}

// overwrite changes all memory of a value, also that behind the elements of its slices.
func overwrite(v reflect.Value) {
	switch v.Kind() {
	case reflect.Struct:
		for i := range v.NumField() {
			overwrite(v.Field(i))
		}
	case reflect.Array:
		for i := range v.Len() {
			overwrite(v.Index(i))
		}
	case reflect.Slice:
		v.SetLen(v.Cap())
		for i := range v.Len() {
			overwrite(v.Index(i))
		}
	case reflect.Int:
		v.SetInt(-7)
	case reflect.Uint32:
		v.SetUint(77)
	case reflect.String:
		v.SetString("overwritten")
	case reflect.Bool:
		v.SetBool(true)
	}
}

// R2 and R6: Format and Equal change nothing in their arguments, and give the same results again.
func TestArgumentsKept(t *testing.T) {
	r, g := rand.New(rand.NewSource(10)), readGrammar()
	for i := range 300 {
		got := g.model(strings.Join(randomTokens(r, g, 2, 0), " "))
		if got.err != api.OK {
			continue
		}
		a, b := clone(got.source), clone(got.source)
		if i%2 == 0 {
			change(r, &a)
		}
		keptA, keptB := clone(a), clone(b)
		text, err := syntax.Format(a)
		equal := syntax.Equal(a, b)
		if again, err2 := syntax.Format(a); again != text || err2 != err || syntax.Equal(a, b) != equal {
			t.Errorf("%+v: two results of one call", a)
		}
		if !reflect.DeepEqual(a, keptA) || !reflect.DeepEqual(b, keptB) {
			t.Errorf("%+v was changed to %+v", keptA, a)
		}
	}
}

// memory is a row of bytes in memory: where it begins, and where it ends.
type memory struct{ from, to uintptr }

// memoryOf returns the memory of the slices and the texts in a value, slices with all their capacity.
func memoryOf(v reflect.Value) []memory {
	var out []memory
	switch v.Kind() {
	case reflect.String:
		from := uintptr(unsafe.Pointer(unsafe.StringData(v.String())))
		out = append(out, memory{from, from + uintptr(v.Len())})
	case reflect.Slice:
		from := v.Pointer()
		out = append(out, memory{from, from + uintptr(v.Cap())*v.Type().Elem().Size()})
		fallthrough
	case reflect.Array:
		for i := range v.Len() {
			out = append(out, memoryOf(v.Index(i))...)
		}
	case reflect.Struct:
		for i := range v.NumField() {
			out = append(out, memoryOf(v.Field(i))...)
		}
	}
	return out
}

// R2: the lists, the numbers and the names of a source share no memory with each other and with the text.
func TestPartsApart(t *testing.T) {
	r, g := rand.New(rand.NewSource(11)), readGrammar()
	for i := range 200 {
		text := strings.Clone(whole)
		if i > 0 {
			text = spread(r, randomTokens(r, g, 3, 0))
		}
		got := parse(text)
		list := append(memoryOf(reflect.ValueOf(got.source)), memoryOf(reflect.ValueOf(text))...)
		list = slices.DeleteFunc(list, func(m memory) bool { return m.from == m.to })
		slices.SortFunc(list, func(a, b memory) int { return cmp.Compare(a.from, b.from) })
		for i := 1; i < len(list); i++ {
			if list[i].from < list[i-1].to {
				t.Fatalf("%.200q: two parts share memory", text)
			}
		}
		runtime.KeepAlive(text)
		runtime.KeepAlive(got)
	}
}

// R4: with an error there is nothing else, without one the position is the zero one.
func TestZeroResults(t *testing.T) {
	for _, text := range []string{"", "extent 1; volume a b", "extent 1; volume a b; ?", whole + "volume", strings.Replace(whole, "8760", "8760/0", 1), strings.Replace(whole, "most 4 machine", "most 4 rack", 1), strings.Replace(whole, "port 64", "port 1000001", 1), whole + strings.Repeat(" ", 8000)} {
		s, err, pos := syntax.Parse(text)
		if err == api.OK || !reflect.DeepEqual(s, api.Source{}) || pos.Line < 1 || pos.Col < 1 {
			t.Errorf("%.60q: %+v, %d, %v", text, s, err, pos)
		}
	}
	for _, text := range []string{"extent 0;", whole, "extent 1; #"} {
		if _, err, pos := syntax.Parse(text); err != api.OK || pos != (api.Pos{}) {
			t.Errorf("%.60q: %d, %v", text, err, pos)
		}
	}
}

// R1: every call ends, whatever the text or the source is.
func TestAnyArguments(t *testing.T) {
	r := rand.New(rand.NewSource(12))
	for range 3000 {
		syntax.Parse(from(r, "extn lawmod;{}/,+1 0\n#\xff", r.Intn(40)))
		syntax.Parse("extent 1;" + from(r, "site a uplink 1{}", r.Intn(60)))
	}
	syntax.Parse(strings.Repeat("site a uplink 1 {", 1<<20))
	s := api.Source{Nodes: make([]api.SourceNode, 1<<20)}
	for i := range s.Nodes {
		s.Nodes[i] = api.SourceNode{Level: i % 7, Name: "n", Shock: ratio(0, 1)}
	}
	if _, err := syntax.Format(s); err != api.ErrArg {
		t.Errorf("a million nodes: error %d", err)
	}
	if !syntax.Equal(s, s) {
		t.Error("a million nodes are not equal to themselves")
	}
}
