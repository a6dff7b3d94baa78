package lexer_test

import (
	"fmt"
	"strings"
	"testing"

	"drydock/api"
)

// P8.2: lines and columns of the tokens and of the end, written out.
func TestPositions(t *testing.T) {
	for text, want := range map[string]string{
		"\n":                    "end2:1 ",
		"\n\n\n":                "end4:1 ",
		"\r":                    "end1:2 ",
		"\r\n":                  "end2:1 ",
		"\n\r":                  "end2:2 ",
		"\r\r\n\r":              "end2:2 ",
		"a\n":                   "n1:1 a|end2:1 ",
		"\na":                   "n2:1 a|end2:2 ",
		"a\nb":                  "n1:1 a|n2:1 b|end2:2 ",
		"a \n b":                "n1:1 a|n2:2 b|end2:3 ",
		"a\n\nb":                "n1:1 a|n3:1 b|end3:2 ",
		"a\r\nb\r\n":            "n1:1 a|n2:1 b|end3:1 ",
		"a\rb":                  "n1:1 a|n1:3 b|end1:4 ",
		"\ta":                   "n1:2 a|end1:3 ",
		"\t\t1\t2":              "#1:3 1|#1:5 2|end1:6 ",
		"  {\n    1,\n\t2\n}\n": "s1:3 {|#2:5 1|s2:6 ,|#3:2 2|s4:1 }|end5:1 ",
		"#x\n #y\n  #z":         "end3:5 ",
		"#\u00e9":               "end1:4 ",
		"a #\u00e9\u20ac":       "n1:1 a|end1:9 ",
		"#\u2028\u0085\r\n\r1":  "#2:2 1|end2:3 ",
		"abc 12 ; d\n ef 3":     "n1:1 abc|#1:5 12|s1:8 ;|n1:10 d|n2:2 ef|#2:5 3|end2:6 ",
	} {
		checkTokens(t, text, want)
	}
}

// P8.2: errors behind lines and blanks of many numbers.
func TestErrorPositions(t *testing.T) {
	for lines := range 12 {
		for blanks := range 12 {
			before := strings.Repeat("a b#;\r\n", lines) + strings.Repeat(" ", blanks)
			checkError(t, before+"\x80", api.ErrSyntax, 1+lines, 1+blanks)
			checkError(t, before+"-\n", api.ErrSyntax, 1+lines, 1+blanks)
			checkError(t, before+strings.Repeat("a", 17), api.ErrSize, 1+lines, 1+blanks)
			checkError(t, before+"{"+strings.Repeat("1", 41), api.ErrSize, 1+lines, 2+blanks)
			checkError(t, before+"12?", api.ErrSyntax, 1+lines, 3+blanks)
			checkError(t, before+"name_", api.ErrSyntax, 1+lines, 5+blanks)
		}
	}
}

// P8.2: numbers of lines and columns up to the greatest ones.
func TestGreatPositions(t *testing.T) {
	for _, n := range []int{254, 255, 256, 257, 4095, 4096, 7998, 7999} {
		checkTokens(t, strings.Repeat("\n", n)+";", fmt.Sprintf("s%d:1 ;|end%d:2 ", n+1, n+1))
		checkTokens(t, strings.Repeat(" ", n)+";", fmt.Sprintf("s1:%d ;|end1:%d ", n+1, n+2))
		checkTokens(t, strings.Repeat("\n", n/2)+strings.Repeat("\t", n-n/2)+"#", fmt.Sprintf("end%d:%d ", n/2+1, n-n/2+2))
	}
}
