package lexer_test

import (
	"math/rand"
	"regexp"
	"slices"
	"strings"
	"testing"

	"drydock/api"
)

// gap is what may stand before a token. A comment before one has a line feed behind it.
var gap = regexp.MustCompile(`\A(?:[ \t\r\n]|#[^\n]*\n)*\z`)

// starts returns the index of the first byte of every line.
func starts(text string) []int {
	out := []int{0}
	for i := range len(text) {
		if text[i] == '\n' {
			out = append(out, i+1)
		}
	}
	return out
}

// checkTiles checks that the tokens stand in the text in their order, with only space and comments between them.
func checkTiles(t *testing.T, text string, tokens []api.Token) {
	t.Helper()
	lines, end := starts(text), 0
	for i, token := range tokens {
		at := lines[token.Pos.Line-1] + token.Pos.Col - 1
		last := i == len(tokens)-1
		if (token.Kind == api.TokenEnd) != last || (token.Text == "") != last {
			t.Errorf("%.40q: token %d of %d is %v", text, i, len(tokens), token)
		}
		if at < end || !strings.HasPrefix(text[at:], token.Text) {
			t.Errorf("%.40q: token %v behind %d", text, token, end)
			return
		}
		between := text[end:at]
		if last {
			between += "\n"
		}
		if !gap.MatchString(between) {
			t.Errorf("%.40q: before %v stands %q", text, token, between)
		}
		end = at + len(token.Text)
	}
	if end != len(text) {
		t.Errorf("%.40q: the end token stands at %d", text, end)
	}
}

// unplaced returns the tokens without their positions.
func unplaced(tokens []api.Token) []api.Token {
	out := slices.Clone(tokens)
	for i := range out {
		out[i].Pos = api.Pos{}
	}
	return out
}

// checkSpaced writes the tokens with other space between them and compares the tokens of that text.
func checkSpaced(t *testing.T, tokens []api.Token, behind func(token api.Token) string) {
	t.Helper()
	var text strings.Builder
	want := slices.Clone(tokens)
	for i, token := range tokens {
		want[i].Pos = place(text.String(), text.Len())
		if token.Kind != api.TokenEnd {
			text.WriteString(token.Text + behind(token))
		}
	}
	got := scan(text.String())
	if !slices.Equal(unplaced(got.tokens), unplaced(tokens)) || !got.equal(answer{tokens: want}) {
		t.Errorf("%.60q: %v, want %v", text.String(), got, show(want))
	}
}

// checkLaws checks the laws of a text without errors.
func checkLaws(t *testing.T, text string) {
	t.Helper()
	got := scan(text)
	if got.err != api.OK {
		t.Errorf("%.60q: %v", text, got)
		return
	}
	checkTiles(t, text, got.tokens)
	for _, behindSemicolon := range []string{" ", " \n", "\n", "\r\n", "#;\n"} {
		for _, behindOthers := range []string{" ", "\n", "\t \r", "# x\n"} {
			checkSpaced(t, got.tokens, func(token api.Token) string {
				if token.Text == ";" {
					return behindSemicolon
				}
				return behindOthers
			})
		}
	}
}

// P8.5: random texts without errors, and texts whose tokens touch each other.
func TestLaws(t *testing.T) {
	r := rand.New(rand.NewSource(6))
	for range 600 {
		checkLaws(t, randomText(r, r.Intn(40), 0))
	}
	for range 600 {
		var text strings.Builder
		for range r.Intn(30) {
			text.WriteString(from(r, digits, 1+r.Intn(5)) + []string{"", from(r, letters, 1) + from(r, letters+digits+"-.", r.Intn(4)), ""}[r.Intn(3)] + from(r, allSigns, r.Intn(3)) + []string{"", "#-\n"}[r.Intn(2)])
			if r.Intn(4) == 0 {
				text.WriteString("\n")
			}
		}
		if got := scan(text.String()); got.err == api.OK {
			checkLaws(t, text.String())
		}
	}
	for _, text := range []string{"", ";", "a", "1", "1a1", ";;", "a;", "{a}", "2+1;", "1/2,3/4;", "1a;2b", "#", ";#;\n;"} {
		checkLaws(t, text)
	}
}

// P8.5: the text of a whole fleet, with comments, and with one blank behind each token.
func TestFleetText(t *testing.T) {
	text := "# a fleet\nextent 2;\nlaw wear { start 1 0; rates 0 1/10, 0 0; exit 0 1/5; } # two phases\nmodel disk-1 { extents 8; port 4; law wear; }\nsite s uplink 9 shock 1/1000 {\r\n\troom s.r uplink 8 { rack s.r.k uplink 8 { machine s.r.k.m uplink 4 {\n\t\tdrive d-1 disk-1; drive d-2 disk-1;#;\n} } } }\npolicy p { code 2+1; quorum 3; most 1 rack; on disk-1; repair 1/2 1; target 1/1000000 in 8760; }\nvolume v p;\n"
	checkLaws(t, text)
	check(t, text)
	var words []string
	for _, token := range scan(text).tokens {
		words = append(words, token.Text)
	}
	if got := strings.Join(words, " "); !strings.HasPrefix(got, "extent 2 ; law wear { start 1 0 ; rates 0 1 / 10 , 0 0 ; exit 0 1 / 5 ; } model disk-1 {") || !strings.HasSuffix(got, "drive d-2 disk-1 ; } } } } policy p { code 2 + 1 ; quorum 3 ; most 1 rack ; on disk-1 ; repair 1 / 2 1 ; target 1 / 1000000 in 8760 ; } volume v p ; ") {
		t.Errorf("the tokens are %s", got)
	}
}
