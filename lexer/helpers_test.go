package lexer_test

import (
	"fmt"
	"math/rand"
	"regexp"
	"slices"
	"strings"
	"testing"

	"drydock/api"
	"drydock/lexer"
)

// The tests divide texts by regular expressions and count lines from the beginning of the text, apart from the program.

var (
	skipped = regexp.MustCompile(`^(?:[ \t\r\n]|#[^\n]*)*`)
	words   = regexp.MustCompile(`^[A-Za-z][-.0-9A-Za-z]*`)
	numbers = regexp.MustCompile(`^[0-9]+`)
	marks   = regexp.MustCompile(`^[{};,+/]`)
	named   = regexp.MustCompile(`\A[A-Za-z][-.0-9A-Za-z]{0,15}\z`)
)

// answer is what Scan returns.
type answer struct {
	tokens []api.Token
	err    api.Errno
	pos    api.Pos
}

func (a answer) equal(b answer) bool {
	return slices.Equal(a.tokens, b.tokens) && a.err == b.err && a.pos == b.pos
}

func (a answer) String() string {
	if a.err != api.OK || a.pos != (api.Pos{}) {
		return fmt.Sprintf("error %d at %d:%d with %d tokens", a.err, a.pos.Line, a.pos.Col, len(a.tokens))
	}
	return show(a.tokens)
}

// show returns the tokens as a text: n for a name, # for a number, s for a sign and "end", each with its position and its bytes.
func show(tokens []api.Token) string {
	var out []string
	for _, token := range tokens {
		kind := map[int]string{1: "n", 2: "#", 3: "s", 4: "end"}[token.Kind]
		out = append(out, fmt.Sprintf("%s%d:%d %s", kind, token.Pos.Line, token.Pos.Col, token.Text))
	}
	return strings.Join(out, "|")
}

func scan(text string) answer {
	tokens, err, pos := lexer.Scan(text)
	return answer{tokens, err, pos}
}

// place returns the position of the byte at an index.
func place(text string, index int) api.Pos {
	before := text[:index]
	return api.Pos{Line: 1 + strings.Count(before, "\n"), Col: index - strings.LastIndex(before, "\n")}
}

// model returns what Scan should return.
func model(text string) answer {
	if len(text) > 8000 {
		return answer{err: api.ErrSize, pos: place(text, 8000)}
	}
	var tokens []api.Token
	at := len(skipped.FindString(text))
	for at < len(text) {
		token, most := api.Token{Pos: place(text, at)}, 1
		if token.Text = words.FindString(text[at:]); token.Text != "" {
			token.Kind, most = 1, 16
		} else if token.Text = numbers.FindString(text[at:]); token.Text != "" {
			token.Kind, most = 2, 40
		} else if token.Text = marks.FindString(text[at:]); token.Text != "" {
			token.Kind = 3
		} else {
			return answer{err: api.ErrSyntax, pos: token.Pos}
		}
		if len(token.Text) > most {
			return answer{err: api.ErrSize, pos: token.Pos}
		}
		tokens = append(tokens, token)
		at += len(token.Text)
		at += len(skipped.FindString(text[at:]))
	}
	return answer{tokens: append(tokens, api.Token{Kind: 4, Pos: place(text, at)})}
}

// check compares Scan with the model.
func check(t *testing.T, text string) {
	t.Helper()
	if got, want := scan(text), model(text); !got.equal(want) {
		t.Errorf("Scan of %d bytes, %.60q: %v, want %v", len(text), text, got, want)
	}
}

// checkTokens compares Scan with tokens that are written out as show writes them.
func checkTokens(t *testing.T, text, want string) {
	t.Helper()
	if got := scan(text); got.err != api.OK || got.String() != want {
		t.Errorf("Scan(%.60q) = %v, want %s", text, got, want)
	}
	check(t, text)
}

// checkError checks that Scan returns an error, its position and nothing else.
func checkError(t *testing.T, text string, err api.Errno, line, col int) {
	t.Helper()
	want := answer{err: err, pos: api.Pos{Line: line, Col: col}}
	if got := scan(text); !got.equal(want) {
		t.Errorf("Scan of %d bytes, %.60q: %v, want %v", len(text), text, got, want)
	}
	check(t, text)
}

// from returns n bytes of an alphabet.
func from(r *rand.Rand, alphabet string, n int) string {
	out := make([]byte, n)
	for i := range out {
		out[i] = alphabet[r.Intn(len(alphabet))]
	}
	return string(out)
}

const (
	letters  = "abcdefghijklmnopqrstuvwxyzABCDEFGHIJKLMNOPQRSTUVWXYZ"
	digits   = "0123456789"
	allSigns = "{};,+/"
)

// comment returns a comment of any bytes without a line feed.
func comment(r *rand.Rand) string {
	out := make([]byte, r.Intn(12))
	for i := range out {
		out[i] = byte(r.Intn(256))
	}
	return "#" + strings.ReplaceAll(string(out), "\n", "#")
}

// randomText returns a text of about n tokens. One of it in odds is an error, none if odds is 0.
func randomText(r *rand.Rand, n, odds int) string {
	var out strings.Builder
	for range n {
		switch r.Intn(5) {
		case 0:
			out.WriteString(" " + from(r, letters, 1) + from(r, letters+digits+"-.", r.Intn(16)))
		case 1:
			out.WriteString(" " + from(r, digits, 1+r.Intn(40)))
		case 2:
			out.WriteString(from(r, allSigns, 1))
		case 3:
			out.WriteString(from(r, " \t\r\n", 1+r.Intn(4)))
		case 4:
			out.WriteString(comment(r) + "\n")
		}
		if odds > 0 && r.Intn(odds) == 0 {
			out.WriteString([]string{"-", ".", "_", "\x80", "\x00", "\"", from(r, letters, 17), from(r, digits, 41), "\v"}[r.Intn(9)])
		}
	}
	if r.Intn(4) == 0 {
		out.WriteString(comment(r))
	}
	return out.String()
}
