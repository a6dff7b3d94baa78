package lexer_test

import (
	"math/rand"
	"strings"
	"testing"

	"drydock/api"
)

const most = 8000 // bytes of the longest text

// filled returns n bytes that begin with many copies of a text.
func filled(text string, n int) string {
	return strings.Repeat(text, n/len(text)+1)[:n]
}

// P8.3: texts of the greatest length are read as a whole.
func TestLongestTexts(t *testing.T) {
	for _, piece := range []string{";", " ", "\n", "a ", "1 ", "\n#", "a\n", "a1;", "{ }\n", "#abc\n1/2;", "abcdefghijklmnop ", "ab,"} {
		for n := most - 9; n <= most; n++ {
			check(t, filled(piece, n))
		}
	}
	for text, tokens := range map[string]int{
		filled(";", most):                         most + 1,
		filled("a ", most):                        most/2 + 1,
		filled(" ", most):                         1,
		filled("\n", most-1) + "a":                2,
		filled(" ", most-16) + filled("n", 16):    2,
		filled(" ", most-40) + filled("1", 40):    2,
		filled("# \xff\n", most-4) + "++++":       5,
		"#" + filled("?", most-1):                 1,
		"a" + filled("#", most-1):                 2,
		"a" + filled("\r\n", most-2) + "b":        3,
		filled(";", most-2) + "#\x00":             most - 1,
		filled("/", most/2) + filled(" ", most/2): most/2 + 1,
	} {
		got := scan(text)
		if len(text) != most || got.err != api.OK || len(got.tokens) != tokens {
			t.Errorf("%d bytes, %.20q: error %d, %d tokens, want %d", len(text), text, got.err, len(got.tokens), tokens)
		}
		check(t, text)
	}
	checkError(t, filled(" ", most-1)+"?", api.ErrSyntax, 1, most)
	checkError(t, filled("\n", most-1)+"-", api.ErrSyntax, most, 1)
	checkError(t, filled(";", most-17)+filled("a", 17), api.ErrSize, 1, most-16)
	checkError(t, filled(";", most-41)+filled("1", 41), api.ErrSize, 1, most-40)
}

// P8.3: texts that are too long, whatever is in them, with the position of the first byte that is too many.
func TestTooLongTexts(t *testing.T) {
	for _, c := range []struct {
		text      string
		line, col int
	}{
		{filled(" ", most) + " ", 1, most + 1},
		{filled(";", most+1), 1, most + 1},
		{filled("a", most+1), 1, most + 1},
		{filled("1", most+1), 1, most + 1},
		{filled("?", most+1), 1, most + 1},
		{filled("-", most) + "a", 1, most + 1},
		{"?" + filled("a b\r", most), 1, most + 1},
		{"#" + filled("#", most), 1, most + 1},
		{filled("\n", most) + "a", most + 1, 1},
		{filled("\n", most+1), most + 1, 1},
		{filled("\n", most+5), most + 1, 1},
		{filled(" ", most) + "\n", 1, most + 1},
		{filled(" ", most) + "\n\n\n?", 1, most + 1},
		{filled(" ", most-1) + "\n;", 2, 1},
		{filled(" ", most-1) + "\n\n", 2, 1},
		{filled(" ", most-2) + "\n;;", 2, 2},
		{filled(" ", most-2) + "\n;\n", 2, 2},
		{"\n" + filled(" ", most), 2, most},
		{filled("\n", 100) + filled("x", most), 101, most - 99},
		{filled("?\n", most) + "?", most/2 + 1, 1},
		{filled("\n?", most) + "?", most/2 + 1, 2},
		{"\n\xff\xff" + filled("#", most), 2, most},
		{filled("a", 17) + filled("\r\n", most), (most-17)/2 + 1, 2},
		{filled("\u20ac", most+2), 1, most + 1},
		{"#\n#" + filled("\u00e9", most), 2, most - 1},
	} {
		checkError(t, c.text, api.ErrSize, c.line, c.col)
		checkError(t, c.text+"\n?"+filled("1", 50), api.ErrSize, c.line, c.col)
		checkError(t, c.text+c.text, api.ErrSize, c.line, c.col)
	}
	checkError(t, filled("a ", 1<<22), api.ErrSize, 1, most+1)
}

// P8.3: random texts around the limit.
func TestTextsAroundTheLimit(t *testing.T) {
	r := rand.New(rand.NewSource(4))
	var found [2]int
	for range 200 {
		text := filled(randomText(r, 200, 0)+"\n", most-30) + "\n" + from(r, " \n;a#", r.Intn(60))
		if len(text) > most {
			found[1]++
		} else {
			found[0]++
		}
		check(t, text)
	}
	if found[0] < 50 || found[1] < 50 {
		t.Errorf("texts up to the limit and behind it: %v", found)
	}
}
