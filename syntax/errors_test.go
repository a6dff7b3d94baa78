package syntax_test

import (
	"math/rand"
	"slices"
	"strings"
	"testing"

	"drydock/api"
	"drydock/lexer"
)

// tokensOf returns the tokens of a text without the end.
func tokensOf(t *testing.T, text string) []string {
	t.Helper()
	tokens, err, _ := lexer.Scan(text)
	if err != api.OK {
		t.Fatalf("%.60q: error %d", text, err)
	}
	var out []string
	for _, token := range tokens[:len(tokens)-1] {
		out = append(out, token.Text)
	}
	return out
}

// others are tokens that are put at each place of a text: all words and signs, and names and numbers of all kinds.
func others() []string {
	return append(slices.Clone(words), "{", "}", ";", ",", "+", "/", "name", "fleet", "Site", "0", "1", "1000000", "1000001", "00", "0001000000", strings.Repeat("9", 40))
}

// with returns a list with other elements in place of those from i to k.
func with(list []string, i, k int, instead ...string) []string {
	return slices.Concat(list[:i], instead, list[k:])
}

// P9.2: a text with every part of the grammar, with every token left out, written twice, exchanged with the next one, followed by the end, replaced by every other token and preceded by every other token.
func TestEveryPlace(t *testing.T) {
	g, list := readGrammar(), tokensOf(t, whole)
	found := map[api.Errno]int{}
	try := func(tokens []string) {
		found[g.check(t, strings.Join(tokens, " ")).err]++
	}
	for i := range list {
		try(with(list, i, i+1))
		try(with(list, i, i, list[i]))
		try(list[:i])
		if i+2 <= len(list) {
			try(with(list, i, i+2, list[i+1], list[i]))
		}
		for _, other := range others() {
			try(with(list, i, i+1, other))
			try(with(list, i, i, other))
		}
	}
	for _, other := range others() {
		try(append(slices.Clone(list), other))
	}
	if found[api.OK] < 100 || found[api.ErrSyntax] < 10000 || found[api.ErrSize] < 20 || found[api.ErrZero] < 10 || found[api.ErrDuplicate] < 5 {
		t.Errorf("errors that were found: %v", found)
	}
}

// P9.2: random texts with some tokens changed.
func TestRandomChanges(t *testing.T) {
	r, g := rand.New(rand.NewSource(2)), readGrammar()
	found := map[api.Errno]int{}
	for range 4000 {
		list := randomTokens(r, g, 1+r.Intn(3), []int{0, 50}[r.Intn(2)])
		for range 1 + r.Intn(3) {
			i, other := r.Intn(len(list)), others()[r.Intn(len(others()))]
			switch r.Intn(4) {
			case 0:
				list = with(list, i, i+1)
			case 1:
				list = with(list, i, i, other)
			case 2:
				list = with(list, i, i+1, other)
			case 3:
				k := r.Intn(len(list))
				list[i], list[k] = list[k], list[i]
			}
			if len(list) == 0 {
				break
			}
		}
		found[g.check(t, spread(r, list)).err]++
	}
	if found[api.OK] < 80 || found[api.ErrSyntax] < 2000 || found[api.ErrSize] < 50 || found[api.ErrZero] < 50 {
		t.Errorf("errors that were found: %v", found)
	}
}

// P9.2: texts that end too early have the error at their end, behind space and comments.
func TestTooShort(t *testing.T) {
	checkError(t, "", api.ErrSyntax, 1, 1)
	checkError(t, " \n\t", api.ErrSyntax, 2, 2)
	checkError(t, "# extent 1;", api.ErrSyntax, 1, 12)
	checkError(t, "extent", api.ErrSyntax, 1, 7)
	checkError(t, "extent 1 # ;\n", api.ErrSyntax, 2, 1)
	checkError(t, "extent 1; law", api.ErrSyntax, 1, 14)
	checkError(t, "extent 1;\nlaw a { start 1; rates 0", api.ErrSyntax, 2, 25)
	checkError(t, "extent 1;\nsite a uplink 1", api.ErrSyntax, 2, 16)
	checkError(t, "extent 1;\nsite a uplink 1 shock 1 /", api.ErrSyntax, 2, 26)
	checkError(t, "extent 1;\nsite a uplink 1 {", api.ErrSyntax, 2, 18)
	checkError(t, "extent 1; policy p { code 1 + 1; quorum 1; most 1", api.ErrSyntax, 1, 50)
	checkError(t, "extent 1; volume a", api.ErrSyntax, 1, 19)
}

// P9.2: errors that are written out, with their places.
func TestErrorsWritten(t *testing.T) {
	for _, c := range []struct {
		text      string
		err       api.Errno
		line, col int
	}{
		{"Extent 1;", api.ErrSyntax, 1, 1},
		{"extents 1;", api.ErrSyntax, 1, 1},
		{"extent x;", api.ErrSyntax, 1, 8},
		{"extent 1/1;", api.ErrSyntax, 1, 9},
		{"extent 1;;", api.ErrSyntax, 1, 10},
		{"extent 1; extent 1;", api.ErrSyntax, 1, 11},
		{"extent 1000001;", api.ErrSize, 1, 8},
		{"extent " + strings.Repeat("9", 40), api.ErrSize, 1, 8},
		{"extent 1; volume a b; policy c", api.ErrSyntax, 1, 23},
		{"extent 1; volume a b; law", api.ErrSyntax, 1, 23},
		{"extent 1; model a { extents 1; port 1; law b; } law", api.ErrSyntax, 1, 49},
		{"extent 1; room a uplink 1 { }", api.ErrSyntax, 1, 11},
		{"extent 1; drive a b;", api.ErrSyntax, 1, 11},
		{"extent 1; site a uplink 1 { site", api.ErrSyntax, 1, 29},
		{"extent 1; site a uplink 1 { rack", api.ErrSyntax, 1, 29},
		{"extent 1; site a uplink 1 { drive", api.ErrSyntax, 1, 29},
		{"extent 1; site a uplink 1 { room b uplink 1 { } } }", api.ErrSyntax, 1, 51},
		{"extent 1; site a { uplink 1; }", api.ErrSyntax, 1, 18},
		{"extent 1; site a uplink 1/2 { }", api.ErrSyntax, 1, 26},
		{"extent 1; site a shock 1 uplink 1 { }", api.ErrSyntax, 1, 18},
		{"extent 1; site a uplink 1 shock { }", api.ErrSyntax, 1, 33},
		{"extent 1; site a uplink 1 shock 1 2 { }", api.ErrSyntax, 1, 35},
		{"extent 1; site a uplink 1 shock 1/2/3 { }", api.ErrSyntax, 1, 36},
		{"extent 1; site a uplink 1000001 shock 1/0", api.ErrSize, 1, 25},
		{"extent 1; site a uplink 1 shock 1 /\n 0 ?", api.ErrSyntax, 2, 4},
		{"extent 1; site a uplink 1 shock 1 /\n 0 }", api.ErrZero, 2, 2},
		{"extent 1; site a uplink 1 shock 0/000 { }", api.ErrZero, 1, 35},
		{"extent 1; site 1 uplink 1 { }", api.ErrSyntax, 1, 16},
		{"extent 1; law a { start ; rates 0; exit 1; }", api.ErrSyntax, 1, 25},
		{"extent 1; law a { start 1, 0; rates 0; exit 1; }", api.ErrSyntax, 1, 26},
		{"extent 1; law a { start 1; rates 0,; exit 1; }", api.ErrSyntax, 1, 36},
		{"extent 1; law a { start 1; rates ,0; exit 1; }", api.ErrSyntax, 1, 34},
		{"extent 1; law a { start 1/0 1/0; rates 0; exit 1; }", api.ErrZero, 1, 27},
		{"extent 1; law a { start 1; rates 0, 1/1 2/0; exit 1; }", api.ErrZero, 1, 43},
		{"extent 1; policy p { code 1 1; quorum 1; on m; repair 1; target 1 in 1; }", api.ErrSyntax, 1, 29},
		{"extent 1; policy p { code 1 + 1; quorum 1; on; repair 1; target 1 in 1; }", api.ErrSyntax, 1, 46},
		{"extent 1; policy p { code 1 + 1; quorum 1; on m; most 1 site; repair 1; target 1 in 1; }", api.ErrSyntax, 1, 50},
		{"extent 1; policy p { code 1 + 1; quorum 1; most 1 drive; on m;", api.ErrSyntax, 1, 51},
		{"extent 1; policy p { code 1 + 1; quorum 1; most 1 fleet; on m;", api.ErrSyntax, 1, 51},
		{"extent 1; policy p { code 1 + 1; quorum 1; most site 1; on m;", api.ErrSyntax, 1, 49},
		{"extent 1; policy p { code 1 + 1; quorum 1; most 1 site, on m;", api.ErrSyntax, 1, 55},
		{"extent 1; policy p { code 1 + 1; quorum 1; most 1 rack;\nmost 2 rack; on m;", api.ErrDuplicate, 2, 8},
		{"extent 1; policy p { code 1 + 1; quorum 1; most 1 rack;\nmost 2 rack most", api.ErrDuplicate, 2, 8},
		{"extent 1; policy p { code 1 + 1; quorum 1; most 0 room; most 0 room; on m;", api.ErrDuplicate, 1, 64},
		{"extent 1; policy p { code 1 + 1; quorum 1; most 0 room; most 7 room; on m;", api.ErrDuplicate, 1, 64},
		{"extent 1; policy p { code 1 + 1; quorum 1; most 1 room; most 1000001 room; on m;", api.ErrSize, 1, 62},
		{"extent 1; policy p { code 1 + 1; quorum 1; on m; repair ; target 1 in 1; }", api.ErrSyntax, 1, 57},
		{"extent 1; policy p { code 1 + 1; quorum 1; on m; repair 1; target 1 2 in 1; }", api.ErrSyntax, 1, 69},
		{"extent 1; policy p { code 1 + 1; quorum 1; on m; repair 1; target 1; }", api.ErrSyntax, 1, 68},
		{"extent 1; volume a b c;", api.ErrSyntax, 1, 22},
		{"extent 1; volume a 1;", api.ErrSyntax, 1, 20},
	} {
		checkError(t, c.text, c.err, c.line, c.col)
	}
}

// P9.2: a bound of a level in one policy says nothing about the bounds of another one.
func TestBoundsOfOtherPolicies(t *testing.T) {
	policy := "policy p { code 1 + 1; quorum 1; most 2 rack; on m; repair 1; target 1 in 1; }\n"
	if got := readGrammar().check(t, "extent 1;\n"+policy+policy); got.err != api.OK || len(got.source.Policies) != 2 {
		t.Errorf("two policies with a bound of one level: %v", got)
	}
	checkError(t, "extent 1;\n"+policy+policy+strings.Replace(policy, "on m", "most 2 rack; on m", 1), api.ErrDuplicate, 4, 54)
}

// P9.2: an error of lexer.Scan comes before every other one, wherever they are.
func TestLexerErrorsFirst(t *testing.T) {
	for _, c := range []struct {
		text string
		err  api.Errno
		col  int
	}{
		{"extent 1; ?", api.ErrSyntax, 11},
		{"wrong ; ?", api.ErrSyntax, 9},
		{"? wrong", api.ErrSyntax, 1},
		{"extent 1000001; ?", api.ErrSyntax, 17},
		{"extent 1; site a uplink 1 shock 1/0 -", api.ErrSyntax, 37},
		{"wrong abcdefghijklmnopq", api.ErrSize, 7},
		{"wrong " + strings.Repeat("1", 41), api.ErrSize, 7},
		{"extent 1; volume abcdefghijklmnopq", api.ErrSize, 18},
		{"wrong" + strings.Repeat(" ", 7996), api.ErrSize, 8001},
		{"?" + strings.Repeat(" ", 8000), api.ErrSize, 8001},
		{"extent 1;" + strings.Repeat(" ", 7992), api.ErrSize, 8001},
	} {
		checkError(t, c.text, c.err, 1, c.col)
	}
	if got := parse("extent 1;" + strings.Repeat(" ", 7991)); got.err != api.OK || got.source.Extent != 1 {
		t.Errorf("a text of 8000 bytes: %v", got)
	}
}

// fault is a token that stands in the place of one of a text, and the error that it has there.
type fault struct {
	at    int
	token string
	err   api.Errno
}

// faultsOf returns faults of all kinds, in the order of the text.
func faultsOf(list []string) []fault {
	var out []fault
	for i, token := range list {
		switch {
		case token == "uplink" || token == "rates" || token == "in" || token == "law":
			out = append(out, fault{i, "}", api.ErrSyntax})
		case token == "port" || token == "+" || token == "most":
			out = append(out, fault{i + 1, "1000001", api.ErrSize})
		case token == "/":
			out = append(out, fault{i + 1, "00", api.ErrZero})
		case i > 1 && list[i-2] == "most" && token != "site":
			out = append(out, fault{i, "site", api.ErrDuplicate})
		}
	}
	return out
}

// P9.2: of two errors in a text the first one counts, whatever kinds they have.
func TestTwoErrors(t *testing.T) {
	list := tokensOf(t, whole)
	faults := faultsOf(list)
	pairs := map[[2]api.Errno]int{}
	for i, a := range faults {
		for _, b := range faults[i:] {
			tokens := slices.Clone(list)
			tokens[b.at] = b.token
			tokens[a.at] = a.token
			before := strings.Join(tokens[:a.at], " ") + " "
			checkError(t, strings.Join(tokens, " "), a.err, 1, len(before)+1)
			pairs[[2]api.Errno{a.err, b.err}]++
		}
	}
	if len(pairs) != 16 {
		t.Errorf("kinds of errors: %v", pairs)
	}
}
