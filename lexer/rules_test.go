package lexer_test

import (
	"cmp"
	"math/rand"
	"runtime"
	"slices"
	"strings"
	"testing"
	"unsafe"

	"drydock/api"
	"drydock/lexer"
)

// Rules: the same text gives the same result, whatever was scanned before it, and results are apart from each other.
func TestRules(t *testing.T) {
	r := rand.New(rand.NewSource(7))
	var texts []string
	for range 100 {
		texts = append(texts, randomText(r, r.Intn(30), 30*r.Intn(2)))
	}
	texts = append(texts, "", "a", "?", strings.Repeat("a", 17), strings.Repeat(" ", 8001))
	var first, kept []answer
	for _, text := range texts {
		got := scan(text)
		first = append(first, got)
		kept = append(kept, answer{slices.Clone(got.tokens), got.err, got.pos})
	}
	slices.Reverse(texts)
	for i, text := range texts {
		before := first[len(first)-1-i]
		for j := range before.tokens {
			before.tokens[j] = api.Token{Kind: 9, Text: "overwritten"}
		}
		_ = append(before.tokens, api.Token{Kind: 9, Text: "appended"})
		if got, want := scan(text), kept[len(kept)-1-i]; !got.equal(want) {
			t.Errorf("%.40q: %v, then %v", text, want, got)
		}
	}
}

// Rules: IsName depends on its argument only.
func TestIsNameAgain(t *testing.T) {
	list := []string{"a", "", "1", "abcdefghijklmnop", "abcdefghijklmnopq", "a b", "-"}
	for range 3 {
		for i, s := range list {
			lexer.Scan(s)
			if got, want := lexer.IsName(s), i == 0 || i == 3; got != want {
				t.Errorf("IsName(%q) = %v", s, got)
			}
		}
	}
}

// Rules: the texts of the tokens share no memory with the text, and not with each other.
func TestTextsApart(t *testing.T) {
	// A row of bytes in memory: where it begins, and where it ends.
	type row struct{ from, to uintptr }
	memory := func(s string) row {
		from := uintptr(unsafe.Pointer(unsafe.StringData(s)))
		return row{from, from + uintptr(len(s))}
	}
	r := rand.New(rand.NewSource(8))
	for range 50 {
		text := strings.Clone("abc " + randomText(r, 40, 0))
		tokens, err, _ := lexer.Scan(text)
		if err != api.OK {
			t.Fatalf("%q: error %d", text, err)
		}
		rows := []row{memory(text)}
		for _, token := range tokens {
			if token.Text != "" {
				rows = append(rows, memory(token.Text))
			}
		}
		slices.SortFunc(rows, func(a, b row) int { return cmp.Compare(a.from, b.from) })
		for i := 1; i < len(rows); i++ {
			if rows[i].from < rows[i-1].to {
				t.Fatalf("%q: two texts share memory", text)
			}
		}
		runtime.KeepAlive(text)
		runtime.KeepAlive(tokens)
	}
}

// Rules: with an error there are no tokens, without one the position is the zero one.
func TestZeroResults(t *testing.T) {
	for _, text := range []string{"a b ?", "1 2 3 " + strings.Repeat("a", 17), ";;;" + strings.Repeat("1", 41), strings.Repeat("a ", 5000)} {
		if tokens, err, pos := lexer.Scan(text); len(tokens) != 0 || err == api.OK || pos.Line < 1 || pos.Col < 1 {
			t.Errorf("%.40q: %v, %d, %v", text, tokens, err, pos)
		}
	}
	for _, text := range []string{"", "a", "a b\n1;", "#", strings.Repeat("a ", 4000)} {
		if tokens, err, pos := lexer.Scan(text); len(tokens) == 0 || err != api.OK || pos != (api.Pos{}) {
			t.Errorf("%.40q: %v, %d, %v", text, tokens, err, pos)
		}
	}
}
