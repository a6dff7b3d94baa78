package syntax_test

import (
	"math/rand"
	"reflect"
	"strings"
	"testing"

	"drydock/api"
	"drydock/syntax"
)

// P9.1 and P9.2: the examples of the chapter, and the first one of the document.
func TestExamples(t *testing.T) {
	if got, want := parse("extent 1;"), (answer{source: api.Source{Extent: 1}}); got.String() != want.String() {
		t.Errorf("extent 1; is %v", got)
	}
	checkError(t, "extent 1", api.ErrSyntax, 1, 9)
	s, err, pos := syntax.Parse("extent 1; volume v gold;")
	want := []api.SourceVolume{{Name: "v", Policy: "gold", Pos: api.Pos{Line: 1, Col: 18}}}
	if err != api.OK || pos != (api.Pos{}) || s.Extent != 1 || !reflect.DeepEqual(s.Volumes, want) {
		t.Errorf("a volume: %+v, %d, %v", s, err, pos)
	}
}

func at(line, col int) api.Pos {
	return api.Pos{Line: line, Col: col}
}

// P9.1: every field of every declaration, with all positions, written out.
func TestWritten(t *testing.T) {
	text := "extent 003;\n" +
		"law L { start 1/2 2/4; rates 0 1/10, 6/4 00; exit 0/9 7; }\n" +
		"model m { extents 8; port 4; law L; } model n{extents 1;port 2;law x;}\n" +
		"site s uplink 9 shock 2/2000 {\n room r uplink 8 { rack k uplink 7 { machine p uplink 6 shock 0/3 {\n  drive d m; drive\n e n; } } } }\n" +
		"policy g { code 2+1; quorum 3; most 5 machine; most 1 site; on m n m; repair 1 2/6; target 1/1000 in 10/4; }\n" +
		"volume v g;volume w h;"
	want := api.Source{
		Extent: 3,
		Laws: []api.SourceLaw{{Law: api.Law{
			Name: "L", Start: []api.Frac{ratio(1, 2), ratio(1, 2)},
			Rates: [][]api.Frac{{ratio(0, 1), ratio(1, 10)}, {ratio(3, 2), ratio(0, 1)}},
			Exit:  []api.Frac{ratio(0, 1), ratio(7, 1)},
		}, Pos: at(2, 5)}},
		Models: []api.SourceModel{
			{Name: "m", Extents: 8, Port: 4, Law: "L", Pos: at(3, 7)},
			{Name: "n", Extents: 1, Port: 2, Law: "x", Pos: at(3, 45)},
		},
		Nodes: []api.SourceNode{
			{Level: 1, Name: "s", Uplink: 9, Shock: ratio(1, 1000), Pos: at(4, 6)},
			{Level: 2, Name: "r", Uplink: 8, Shock: ratio(0, 1), Pos: at(5, 7)},
			{Level: 3, Name: "k", Uplink: 7, Shock: ratio(0, 1), Pos: at(5, 25)},
			{Level: 4, Name: "p", Uplink: 6, Shock: ratio(0, 1), Pos: at(5, 46)},
			{Level: 5, Name: "d", Shock: ratio(0, 1), Model: "m", Pos: at(6, 9)},
			{Level: 5, Name: "e", Shock: ratio(0, 1), Model: "n", Pos: at(7, 2)},
		},
		Policies: []api.SourcePolicy{{
			Name: "g", K: 2, M: 1, Quorum: 3, Spread: [5]int{0, 1, 0, 0, 5}, Models: []string{"m", "n", "m"},
			Repair: []api.Frac{ratio(1, 1), ratio(1, 3)}, Target: ratio(1, 1000), Horizon: ratio(5, 2), Pos: at(8, 8),
		}},
		Volumes: []api.SourceVolume{{Name: "v", Policy: "g", Pos: at(9, 8)}, {Name: "w", Policy: "h", Pos: at(9, 19)}},
	}
	if got := parse(text); got.String() != (answer{source: want}).String() {
		t.Errorf("%v\nwant\n%v", got, answer{source: want})
	}
	readGrammar().check(t, text)
}

// P9.1: every node stands where its name stands in the text, and knows its level.
func TestNodes(t *testing.T) {
	s, err, _ := syntax.Parse(whole)
	if err != api.OK {
		t.Fatalf("error %d", err)
	}
	var got []string
	for _, n := range s.Nodes {
		got = append(got, string(rune('0'+n.Level))+n.Name)
		if n.Level < 5 && n.Model != "" || n.Level == 5 && (n.Uplink != 0 || n.Model == "") {
			t.Errorf("node %+v", n)
		}
	}
	if want := "1s 2s.r 3s.r.k 4m-1 5d-1 5d-2 4m-2 2s.q 1t 2t.r 3t.r.k 4m-3 5d-3"; strings.Join(got, " ") != want {
		t.Errorf("nodes %v, want %s", got, want)
	}
	readGrammar().check(t, whole)
}

// P9.1: the least texts of each declaration.
func TestLeastTexts(t *testing.T) {
	g := readGrammar()
	for _, text := range []string{
		"extent 0;",
		"extent 1;law a{start 0;rates 0;exit 0;}",
		"extent 1;law a{start 0 1 2;rates 0,1,2 3;exit 4 5;}law a{start 0;rates 0,0;exit 0;}",
		"extent 1;model a{extents 0;port 0;law b;}",
		"extent 1;site a uplink 0{}",
		"extent 1;site a uplink 0{}site a uplink 1 shock 1{}",
		"extent 1;site a uplink 0{room b uplink 0{}room c uplink 0{}}",
		"extent 1;site a uplink 0{room b uplink 0{rack c uplink 0{}}}",
		"extent 1;site a uplink 0{room b uplink 0{rack c uplink 0{machine d uplink 0{}machine e uplink 0 shock 9/6{drive f g;}}}}site h uplink 1{}",
		"extent 1;policy a{code 0+0;quorum 0;on b;repair 0;target 0 in 0;}",
		"extent 1;policy a{code 0+0;quorum 0;most 0 rack;on b c d;repair 0 1/1 2;target 5/5 in 6/5;}",
		"extent 1;volume a b;volume a b;",
		"extent 1;model a{extents 0;port 0;law b;}volume c d;",
		"extent 1;law a{start 0;rates 0;exit 0;}policy a{code 0+0;quorum 0;on b;repair 0;target 0 in 0;}",
		"#\nextent#;\n1#\n;#",
	} {
		if got := g.check(t, text); got.err != api.OK {
			t.Errorf("%s: %v", text, got)
		}
	}
}

// P9.1: a name may be any name, also a word of the grammar, at each place where a name stands.
func TestWordsAsNames(t *testing.T) {
	g := readGrammar()
	for _, word := range append([]string{"a", "Z9.-", "abcdefghijklmnop"}, words...) {
		for _, text := range []string{
			"extent 1; law @ { start 1; rates 0; exit 1; } model @ { extents 1; port 1; law @; }",
			"extent 1; site @ uplink 1 { room @ uplink 1 shock 1 { rack @ uplink 1 { machine @ uplink 1 { drive @ @; drive @ @; } } } }",
			"extent 1; policy @ { code 1 + 1; quorum 1; on @; repair 1; target 1 in 1; } volume @ @;",
			"extent 1; policy @ { code 1 + 1; quorum 1; most 1 site; on @ @ on @; repair 1; target 1 in 1; } volume @ @; volume @ @;",
		} {
			if got := g.check(t, strings.ReplaceAll(text, "@", word)); got.err != api.OK {
				t.Errorf("the name %s: %v", word, got)
			}
		}
	}
}

// P9.1: the bounds of a policy, in every order, with 0 at the levels without one.
func TestBounds(t *testing.T) {
	g := readGrammar()
	levels := []string{"site", "room", "rack", "machine"}
	for set := range 5 * 5 * 5 * 5 {
		text, want, twice := "extent 1; policy p { code 1 + 1; quorum 1;", [5]int{}, false
		for i, rest := 0, set; i < 4; i, rest = i+1, rest/5 {
			if rest%5 < 4 {
				text += " most " + string(rune('1'+i)) + " " + levels[rest%5] + ";"
				twice = twice || want[rest%5+1] > 0
				want[rest%5+1] = 1 + i
			}
		}
		got := g.check(t, text+" on m; repair 1; target 1 in 1; }")
		switch {
		case twice != (got.err == api.ErrDuplicate), !twice && got.err != api.OK:
			t.Errorf("%s: error %d", text, got.err)
		case !twice && got.source.Policies[0].Spread != want:
			t.Errorf("%s: %v, want %v", text, got.source.Policies[0].Spread, want)
		}
	}
}

// P9.1: numbers are read as int whatever zeros they begin with, fractions with up to 40 digits in both numbers.
func TestNumbers(t *testing.T) {
	for text, want := range map[string]int{"0": 0, "00": 0, "7": 7, "007": 7, "1000000": 1000000, "01000000": 1000000, strings.Repeat("0", 33) + "1000000": 1000000, strings.Repeat("0", 40): 0, "999999": 999999, "123456": 123456} {
		if s, err, _ := syntax.Parse("extent " + text + ";"); err != api.OK || s.Extent != want {
			t.Errorf("%s is read as %d, error %d", text, s.Extent, err)
		}
	}
	g, long := readGrammar(), strings.Repeat("9", 40)
	for _, text := range []string{"1000001", "1000001/1000001", "0/" + long, long, long + "/" + long, "1/" + long, long + "/ 3", strings.Repeat("0", 39) + "6 /\n4", "4294967296/4294967295", "18446744073709551616 # a\n/ # b\n2"} {
		if got := g.check(t, "extent 1; site s uplink 1 shock "+text+" { }"); got.err != api.OK {
			t.Errorf("the shock %s: %v", text, got)
		}
	}
}

// P9.1 and P9.2: random texts of the grammar, with and without numbers that are wrong.
func TestRandomTexts(t *testing.T) {
	r, g := rand.New(rand.NewSource(1)), readGrammar()
	found := map[api.Errno]int{}
	for i := range 4000 {
		odds := []int{0, 100, 20}[i%3]
		text := spread(r, randomTokens(r, g, 1+r.Intn(3), odds))
		got := g.check(t, text)
		found[got.err]++
		if odds == 0 && got.err != api.OK && len(text) <= 8000 {
			t.Fatalf("%q: %v", text, got)
		}
	}
	if found[api.OK] < 1500 || found[api.ErrSize] < 200 || found[api.ErrZero] < 200 || found[api.ErrDuplicate] < 20 {
		t.Errorf("errors that were found: %v", found)
	}
}
