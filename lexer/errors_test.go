package lexer_test

import (
	"math/rand"
	"strings"
	"testing"

	"drydock/api"
)

// P8.3: bytes that no token, space or comment begins with, and characters that look like such ones.
func TestWrongBytes(t *testing.T) {
	for _, text := range []string{
		"-", ".", "-1", ".5", "--", "-a", ".a", "_", "_a", "\"", "'a'", "(", ")", "[", "]", "<", ">", "=", ":", "*", "!", "?", "\\", "|", "&", "%", "$", "@", "~", "^", "`", "@a", "`a", "[a", ":1",
		"\x00", "\x01", "\x1f", "\x7f", "\x80", "\xff", "\xfe\xff", "\v", "\f", "\x1a", "\b", "\x0e", "\x08",
		"\ufeffextent 1;", "\u00e9", "\u00a0", "\u0085", "\u2028", "\u3000", "\u0661", "\uff11", "\uff41", "\u212a", "\u017f", "\uff1b", "\u2010", "\U0001d7d8",
	} {
		checkError(t, text, api.ErrSyntax, 1, 1)
		checkError(t, "  "+text, api.ErrSyntax, 1, 3)
		checkError(t, ";\n{ "+text+" a", api.ErrSyntax, 2, 3)
		checkError(t, "#\n"+text, api.ErrSyntax, 2, 1)
		checkError(t, "1"+text, api.ErrSyntax, 1, 2)
	}
	for text, col := range map[string]int{
		"1.5": 2, "1-2": 2, "12-a": 3, "1/-2": 3, "a_b": 2, "a/.b": 3, "a,-": 3, "x \u00e9": 3, "caf\u00e9": 4, "a\u00a0b": 2, "a\x00": 2, "a#b\n": 0, "a;b;c?": 6, "a b c\v": 6,
	} {
		if col == 0 {
			check(t, text)
			continue
		}
		checkError(t, text, api.ErrSyntax, 1, col)
	}
}

// P8.3: names of every length up to the limit and behind it, of all bytes that a name may have.
func TestLongNames(t *testing.T) {
	r := rand.New(rand.NewSource(2))
	for n := 1; n <= 60; n++ {
		for _, name := range []string{strings.Repeat("a", n), strings.Repeat("Z", n), "x" + strings.Repeat("9", n-1), "q" + strings.Repeat("-", n-1), "q" + strings.Repeat(".", n-1), from(r, letters, 1) + from(r, letters+digits+"-.", n-1)} {
			for _, text := range []string{name, name + " ", name + ";", name + "#", name + "\n", name + "/1", name + "{" + name} {
				if n > 16 {
					checkError(t, text, api.ErrSize, 1, 1)
					checkError(t, "1"+text, api.ErrSize, 1, 2)
					checkError(t, "a\n 1;"+text, api.ErrSize, 2, 4)
				} else if got := scan(text); got.err != api.OK || got.tokens[0] != (api.Token{Kind: 1, Text: name, Pos: api.Pos{Line: 1, Col: 1}}) {
					t.Errorf("Scan(%q) = %v", text, got)
				}
				check(t, text)
			}
		}
	}
	checkTokens(t, "abcdefghijklmnop qrstuvwxyz.01-34", "n1:1 abcdefghijklmnop|n1:18 qrstuvwxyz.01-34|end1:34 ")
	checkTokens(t, "a#bcdefghijklmnopq", "n1:1 a|end1:19 ")
	checkError(t, "abcdefghijklmnopq", api.ErrSize, 1, 1)
	checkError(t, "abcdefghijklmnop-", api.ErrSize, 1, 1)
	checkError(t, strings.Repeat("a", 8000), api.ErrSize, 1, 1)
}

// P8.3: numbers of every length up to the limit and behind it, also those with zeros in front.
func TestLongNumbers(t *testing.T) {
	r := rand.New(rand.NewSource(3))
	for n := 1; n <= 90; n++ {
		for _, number := range []string{strings.Repeat("0", n), strings.Repeat("9", n), strings.Repeat("0", n-1) + "1", "1" + strings.Repeat("0", n-1), from(r, digits, n)} {
			for _, text := range []string{number, number + " ", number + ";", number + "#", number + "\n", number + "/1", number + "a", number + " " + number} {
				if n > 40 {
					checkError(t, text, api.ErrSize, 1, 1)
					checkError(t, "a "+text, api.ErrSize, 1, 3)
					checkError(t, "a\n 1;"+text, api.ErrSize, 2, 4)
				} else if got := scan(text); got.err != api.OK || got.tokens[0] != (api.Token{Kind: 2, Text: number, Pos: api.Pos{Line: 1, Col: 1}}) {
					t.Errorf("Scan(%q) = %v", text, got)
				}
				check(t, text)
			}
		}
	}
	checkError(t, strings.Repeat("1", 8000), api.ErrSize, 1, 1)
	checkError(t, "1/"+strings.Repeat("0", 41), api.ErrSize, 1, 3)
	checkTokens(t, strings.Repeat("1", 40)+"/"+strings.Repeat("2", 40), "#1:1 "+strings.Repeat("1", 40)+"|s1:41 /|#1:42 "+strings.Repeat("2", 40)+"|end1:82 ")
	checkTokens(t, "1"+strings.Repeat("a", 16), "#1:1 1|n1:2 "+strings.Repeat("a", 16)+"|end1:18 ")
}

// P8.3: of several errors, the one at the first place.
func TestFirstError(t *testing.T) {
	name, number := strings.Repeat("n", 17), strings.Repeat("1", 41)
	wrong := []struct {
		text string
		err  api.Errno
	}{{"?", api.ErrSyntax}, {"-", api.ErrSyntax}, {".", api.ErrSyntax}, {"\xff", api.ErrSyntax}, {name, api.ErrSize}, {number, api.ErrSize}}
	for _, first := range wrong {
		for _, second := range wrong {
			for _, between := range []string{" ", "\n", "; a 1 {", "#\n", "\r\n \t/"} {
				checkError(t, first.text+between+second.text, first.err, 1, 1)
				checkError(t, "a 1\n "+first.text+between+second.text, first.err, 2, 2)
				checkError(t, "#"+first.text+"\n"+second.text, second.err, 2, 1)
				checkError(t, "b;#"+second.text+between+"\n\n"+first.text, first.err, strings.Count(between, "\n")+3, 1)
			}
		}
		checkError(t, first.text+"#"+name, first.err, 1, 1)
		checkError(t, first.text, first.err, 1, 1)
	}
	// Two errors without anything between them.
	checkError(t, name+"?", api.ErrSize, 1, 1)
	checkError(t, "?"+name, api.ErrSyntax, 1, 1)
	checkError(t, number+"?", api.ErrSize, 1, 1)
	checkError(t, number+"-", api.ErrSize, 1, 1)
	checkError(t, number+name, api.ErrSize, 1, 1)
	checkError(t, "1"+name, api.ErrSize, 1, 2)
	checkError(t, "."+number, api.ErrSyntax, 1, 1)
	checkError(t, "-"+name, api.ErrSyntax, 1, 1)
	checkError(t, "??", api.ErrSyntax, 1, 1)
}
