package lexer_test

import (
	"math/rand"
	"strings"
	"testing"

	"drydock/api"
	"drydock/lexer"
)

// checkName compares IsName with what is expected, and with the tokens of the text: a name is the only token of itself.
func checkName(t *testing.T, s string, want bool) {
	t.Helper()
	if got := lexer.IsName(s); got != want {
		t.Errorf("IsName of %d bytes, %.40q: %v", len(s), s, got)
	}
	got := scan(s)
	alone := got.err == api.OK && len(got.tokens) == 2 && got.tokens[0] == (api.Token{Kind: 1, Text: s, Pos: api.Pos{Line: 1, Col: 1}})
	if alone != want {
		t.Errorf("IsName of %d bytes, %.40q: %v, but its tokens are %v", len(s), s, want, got)
	}
}

// P8.4: names and texts that are none, written out.
func TestIsName(t *testing.T) {
	for _, s := range []string{"a", "z", "A", "Z", "m", "a1", "a-1", "a.b", "a-", "a.", "a--..", "x0", "extent", "E9", "volume", "abcdefghijklmnop", "a---------------", "Z..............9"} {
		checkName(t, s, true)
	}
	for _, s := range []string{
		"", " ", "1", "0", "9a", "-", ".", "-a", ".a", "_a", "a_b", "a b", " a", "a ", "a\n", "\na", "a\r", "a\t", "a\x00", "\x00a", "a#", "#a", "a#b", "a;", "a/b", "a+b", "a,b", "{", "a{",
		"abcdefghijklmnopq", "a----------------", strings.Repeat("a", 17), strings.Repeat("a", 32), strings.Repeat("a", 256), strings.Repeat("a", 272), strings.Repeat("a", 1<<16), strings.Repeat("a", 1<<16+1), strings.Repeat("a", 1<<22),
		"\u00e9", "a\u00e9", "\u00e9a", "\u212a", "\u017f", "\uff41", "a\u0661", "a\xff", "\xff", "\ufeffa", "@", "[", "`", "a@", "a[", "a`", "a:", "a{", "a/", "a,",
	} {
		checkName(t, s, false)
	}
}

// P8.4: every byte in every place of a name of every length up to the limit and behind it.
func TestIsNameBytes(t *testing.T) {
	for n := 1; n <= 18; n++ {
		for at := range n {
			for c := range 256 {
				name := []byte(strings.Repeat("n", n))
				name[at] = byte(c)
				s := string(name)
				want := n <= 16 && (strings.Contains(letters, s[at:at+1]) || at > 0 && strings.Contains(digits+"-.", s[at:at+1]))
				checkName(t, s, want)
			}
		}
	}
}

// P8.4: random texts of bytes of a name, and of others.
func TestIsNameRandom(t *testing.T) {
	r := rand.New(rand.NewSource(5))
	var found [2]int
	for range 4000 {
		s := from(r, letters+letters+digits+"-.", r.Intn(20))
		if r.Intn(5) == 0 {
			s += from(r, " {};,+/#\n_\x80", 1) + from(r, letters, r.Intn(3))
		}
		want := named.MatchString(s)
		checkName(t, s, want)
		if want {
			found[1]++
		} else {
			found[0]++
		}
	}
	if found[0] < 500 || found[1] < 500 {
		t.Errorf("texts that are no names, and names: %v", found)
	}
}
