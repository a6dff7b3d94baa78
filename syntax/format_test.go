package syntax_test

import (
	"fmt"
	"math/big"
	"math/rand"
	"strings"
	"testing"

	"drydock/api"
	"drydock/syntax"
)

// checkFormat compares Format with the model, and returns the text and the error.
func checkFormat(t *testing.T, name string, s api.Source) (string, api.Errno) {
	t.Helper()
	got, err := syntax.Format(s)
	want, wantErr := canonical(s)
	if got != want || err != wantErr {
		t.Errorf("Format of %s: error %d, want %d; %.300q, want %.300q", name, err, wantErr, got, want)
	}
	return got, err
}

// P9.3: the canonical text of every declaration, written out.
func TestFormatWritten(t *testing.T) {
	if got, err := syntax.Format(api.Source{}); got != "extent 0;\n" || err != api.OK {
		t.Errorf("Format of nothing is %q, error %d", got, err)
	}
	want := strings.NewReplacer("0/3", "0", "6/4", "3/2", " shock 0 ", " ", "0/5", "0").Replace(whole)
	if got, err := syntax.Format(sample(t)); got != want || err != api.OK {
		t.Errorf("error %d, %s\nwant\n%s", err, got, want)
	}
	for text, want := range map[string]string{
		"extent 0001;": "extent 1;\n",
		"extent 1;law a{start 1 2;rates 0 1,2 0,3;exit 4/6 0/2;}":                                             "extent 1;\nlaw a {\nstart 1 2;\nrates 0 1, 2 0, 3;\nexit 2/3 0;\n}\n",
		"extent 1;model m{extents 02;port 3;law m;}":                                                          "extent 1;\nmodel m {\nextents 2;\nport 3;\nlaw m;\n}\n",
		"extent 1;site a uplink 1{}site b uplink 2 shock 0{}":                                                 "extent 1;\nsite a uplink 1 {\n}\nsite b uplink 2 {\n}\n",
		"extent 1;site a uplink 1 shock 3/9{room b uplink 2 shock 4{}room c uplink 3{}}":                      "extent 1;\nsite a uplink 1 shock 1/3 {\nroom b uplink 2 shock 4 {\n}\nroom c uplink 3 {\n}\n}\n",
		"extent 1;policy p{code 1+2;quorum 3;on m;repair 1;target 1 in 2;}":                                   "extent 1;\npolicy p {\ncode 1 + 2;\nquorum 3;\non m;\nrepair 1;\ntarget 1 in 2;\n}\n",
		"extent 1;policy p{code 1+2;quorum 3;most 0 site;on m;repair 1;target 1 in 2;}":                       "extent 1;\npolicy p {\ncode 1 + 2;\nquorum 3;\non m;\nrepair 1;\ntarget 1 in 2;\n}\n",
		"extent 1;policy p{code 1+2;quorum 3;most 4 rack;most 5 site;on m n;repair 1 2/4;target 2/6 in 4/2;}": "extent 1;\npolicy p {\ncode 1 + 2;\nquorum 3;\nmost 5 site;\nmost 4 rack;\non m n;\nrepair 1 1/2;\ntarget 1/3 in 2;\n}\n",
		"extent 1;volume v p;volume in on;":                                                                   "extent 1;\nvolume v p;\nvolume in on;\n",
	} {
		s, err, _ := syntax.Parse(text)
		if err != api.OK {
			t.Fatalf("%s: error %d", text, err)
		}
		if got, err := syntax.Format(s); got != want || err != api.OK {
			t.Errorf("Format of %s: error %d, %q, want %q", text, err, got, want)
		}
		checkFormat(t, text, s)
	}
}

// P9.3: where blanks and line feeds stand, said of any canonical text.
func checkSpacing(t *testing.T, text string) {
	t.Helper()
	for i := range len(text) {
		before, behind := byte('\n'), byte(0)
		if i > 0 {
			before = text[i-1]
		}
		if i+1 < len(text) {
			behind = text[i+1]
		}
		wrong := false
		switch text[i] {
		case ' ':
			wrong = strings.IndexByte(" \n/", before) >= 0 || strings.IndexByte(" \n;,/\x00", behind) >= 0
		case '\n':
			wrong = strings.IndexByte(";{}", before) < 0
		case ';', '}':
			wrong = behind != '\n'
		case '{':
			wrong = behind != '\n' || before != ' '
		case ',', '+':
			wrong = behind != ' '
		case '\t', '\r', '#':
			wrong = true
		}
		if wrong || text[i] == '+' && before != ' ' || text[i] == '}' && before != '\n' {
			t.Errorf("byte %d of %q", i, text)
			return
		}
	}
}

// P9.3 and P9.4: random sources.
func TestRandomSources(t *testing.T) {
	r, g := rand.New(rand.NewSource(3)), readGrammar()
	for range 1500 {
		text := strings.Join(randomTokens(r, g, 1+r.Intn(3), 0), " ")
		if got := g.model(text); got.err == api.OK {
			out, _ := checkFormat(t, text, got.source)
			checkSpacing(t, out)
		}
	}
}

// P9.3 and P9.4: a source with every part of the grammar, with every part of it changed in every way.
func TestEveryPart(t *testing.T) {
	s := sample(t)
	found := map[api.Errno]int{}
	eachVariant(&s, func(name string) {
		_, err := checkFormat(t, name, s)
		found[err]++
	})
	if found[api.OK] < 800 || found[api.ErrArg] < 1000 || found[api.ErrSize] < 80 {
		t.Errorf("errors that were found: %v", found)
	}
}

// P9.3 and P9.4: random sources with several parts changed.
func TestManyParts(t *testing.T) {
	r, g := rand.New(rand.NewSource(4)), readGrammar()
	found := map[api.Errno]int{}
	for range 500 {
		got := g.model(strings.Join(randomTokens(r, g, 2, 0), " "))
		if got.err != api.OK {
			continue
		}
		s := got.source
		for range 1 + r.Intn(3) {
			change(r, &s)
		}
		_, err := checkFormat(t, fmt.Sprintf("%+v", s), s)
		found[err]++
	}
	if found[api.OK] < 80 || found[api.ErrArg] < 200 || found[api.ErrSize] < 10 {
		t.Errorf("errors that were found: %v", found)
	}
}

// long returns a source whose canonical text has n bytes.
func long(n int) api.Source {
	s, rest := api.Source{Extent: 1}, n-len("extent 1;\n")
	for range rest / len("volume a b;\n") {
		s.Volumes = append(s.Volumes, api.SourceVolume{Name: "a", Policy: "b"})
	}
	s.Volumes[len(s.Volumes)-1].Name += strings.Repeat("a", rest%len("volume a b;\n"))
	return s
}

// P9.4: texts of MaxText bytes and of one more.
func TestLongestTexts(t *testing.T) {
	for n := 7960; n <= 8040; n++ {
		s := long(n)
		got, err := checkFormat(t, fmt.Sprintf("%d bytes", n), s)
		if n <= 8000 && (len(got) != n || err != api.OK) || n > 8000 && (got != "" || err != api.ErrSize) {
			t.Errorf("%d bytes: %d bytes, error %d", n, len(got), err)
		}
		s.Volumes[len(s.Volumes)-1].Policy = "9"
		if got, err := syntax.Format(s); got != "" || err != api.ErrArg {
			t.Errorf("ErrArg comes before ErrSize: %d bytes, %d", len(got), err)
		}
	}
}

// P9.4: numbers of fractions with 40 digits and one more, in every place, in lowest terms and not.
func TestLongestNumbers(t *testing.T) {
	ten := big.NewInt(10)
	least := func(digits int64) *big.Int { return new(big.Int).Exp(ten, big.NewInt(digits-1), nil) }
	greatest := func(digits int64) *big.Int { return new(big.Int).Sub(least(digits+1), big.NewInt(1)) }
	one := big.NewInt(1)
	for i, c := range []struct {
		num, den *big.Int
		err      api.Errno
	}{
		{greatest(40), one, api.OK}, {least(41), one, api.ErrSize}, {one, greatest(40), api.OK}, {one, least(41), api.ErrSize},
		{greatest(40), least(40), api.OK}, {greatest(40), least(41), api.ErrSize}, {greatest(41), least(40), api.ErrSize},
		{least(41), ten, api.OK}, {least(60), least(60), api.OK}, {least(60), least(20), api.ErrSize}, {least(59), least(20), api.OK},
	} {
		x := api.Frac{Num: nat(c.num), Den: nat(c.den)}
		law := func() api.SourceLaw {
			return api.SourceLaw{Law: api.Law{Name: "l", Start: []api.Frac{ratio(1, 2)}, Rates: [][]api.Frac{{ratio(1, 2)}}, Exit: []api.Frac{ratio(1, 2)}}}
		}
		policy := api.SourcePolicy{Name: "p", Models: []string{"m"}, Repair: []api.Frac{ratio(1, 2)}, Target: ratio(1, 2), Horizon: ratio(1, 2)}
		sources := make([]api.Source, 7)
		for k := range sources[:3] {
			sources[k].Laws = []api.SourceLaw{law()}
		}
		sources[0].Laws[0].Law.Start[0], sources[1].Laws[0].Law.Rates[0][0], sources[2].Laws[0].Law.Exit[0] = x, x, x
		sources[3].Nodes = []api.SourceNode{{Level: 1, Name: "s", Shock: x}}
		for k := range sources[4:] {
			sources[4+k].Policies = []api.SourcePolicy{policy}
		}
		sources[4].Policies[0].Repair = []api.Frac{x}
		sources[5].Policies[0].Target = x
		sources[6].Policies[0].Horizon = x
		for k, s := range sources {
			if _, err := checkFormat(t, fmt.Sprintf("fraction %d at place %d", i, k), s); err != c.err {
				t.Errorf("fraction %d at place %d: error %d, want %d", i, k, err, c.err)
			}
			s.Volumes = []api.SourceVolume{{Name: "v"}}
			if _, err := syntax.Format(s); err != api.ErrArg {
				t.Errorf("ErrArg comes before ErrSize: %d", err)
			}
		}
	}
}

// R1 and P9.4: very large sources are refused soon.
func TestLargeSources(t *testing.T) {
	power := nat(new(big.Int).Lsh(big.NewInt(1), 32*128-1))
	x := api.Frac{Num: power, Den: append(api.Nat{3}, power[1:]...)}
	many := make([]api.Frac, 1000000)
	for i := range many {
		many[i] = x
	}
	s := api.Source{Laws: []api.SourceLaw{{Law: api.Law{Name: "l", Start: many, Rates: [][]api.Frac{many, {x}}, Exit: many}}}}
	if text, err := syntax.Format(s); text != "" || err != api.ErrSize {
		t.Errorf("a long law: %d bytes, error %d", len(text), err)
	}
	s.Volumes = make([]api.SourceVolume, 1000000)
	for i := range s.Volumes {
		s.Volumes[i] = api.SourceVolume{Name: "v", Policy: "p"}
	}
	if text, err := syntax.Format(s); text != "" || err != api.ErrSize {
		t.Errorf("many volumes: %d bytes, error %d", len(text), err)
	}
	s.Volumes[999999].Name = ""
	if text, err := syntax.Format(s); text != "" || err != api.ErrArg {
		t.Errorf("many volumes, one of them without a name: %d bytes, error %d", len(text), err)
	}
}
