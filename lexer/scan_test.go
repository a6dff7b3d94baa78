package lexer_test

import (
	"math/rand"
	"strings"
	"testing"

	"drydock/api"
)

// P8.1: the examples of the chapter, and the first one of the document.
func TestExamples(t *testing.T) {
	checkTokens(t, "a-1 1/2; # x", "n1:1 a-1|#1:5 1|s1:6 /|#1:7 2|s1:8 ;|end1:13 ")
	checkTokens(t, "1a", "#1:1 1|n1:2 a|end1:3 ")
	checkTokens(t, "extent 1; volume v gold;", "n1:1 extent|#1:8 1|s1:9 ;|n1:11 volume|n1:18 v|n1:20 gold|s1:24 ;|end1:25 ")
	checkTokens(t, "extent 1", "n1:1 extent|#1:8 1|end1:9 ")
}

// P8.1: texts whose tokens are written out.
func TestWritten(t *testing.T) {
	for text, want := range map[string]string{
		"":                       "end1:1 ",
		" ":                      "end1:2 ",
		"#":                      "end1:2 ",
		"a":                      "n1:1 a|end1:2 ",
		"Z":                      "n1:1 Z|end1:2 ",
		"0":                      "#1:1 0|end1:2 ",
		"007":                    "#1:1 007|end1:4 ",
		"x-":                     "n1:1 x-|end1:3 ",
		"x.":                     "n1:1 x.|end1:3 ",
		"x-.-9.":                 "n1:1 x-.-9.|end1:7 ",
		"a1b2":                   "n1:1 a1b2|end1:5 ",
		"1a2":                    "#1:1 1|n1:2 a2|end1:4 ",
		"12ab34":                 "#1:1 12|n1:3 ab34|end1:7 ",
		"1e5":                    "#1:1 1|n1:2 e5|end1:4 ",
		"0x1F":                   "#1:1 0|n1:2 x1F|end1:5 ",
		"1 2":                    "#1:1 1|#1:3 2|end1:4 ",
		"a b":                    "n1:1 a|n1:3 b|end1:4 ",
		"a/b":                    "n1:1 a|s1:2 /|n1:3 b|end1:4 ",
		"a+b":                    "n1:1 a|s1:2 +|n1:3 b|end1:4 ",
		"a+1":                    "n1:1 a|s1:2 +|#1:3 1|end1:4 ",
		"a,b":                    "n1:1 a|s1:2 ,|n1:3 b|end1:4 ",
		"2+1;":                   "#1:1 2|s1:2 +|#1:3 1|s1:4 ;|end1:5 ",
		"3/4/5":                  "#1:1 3|s1:2 /|#1:3 4|s1:4 /|#1:5 5|end1:6 ",
		"{};,+/":                 "s1:1 {|s1:2 }|s1:3 ;|s1:4 ,|s1:5 +|s1:6 /|end1:7 ",
		"//++;;":                 "s1:1 /|s1:2 /|s1:3 +|s1:4 +|s1:5 ;|s1:6 ;|end1:7 ",
		"law L{start 1;}":        "n1:1 law|n1:5 L|s1:6 {|n1:7 start|#1:13 1|s1:14 ;|s1:15 }|end1:16 ",
		"machine m.1 uplink 4 {": "n1:1 machine|n1:9 m.1|n1:13 uplink|#1:20 4|s1:22 {|end1:23 ",
		"extent 1;\nvolume":      "n1:1 extent|#1:8 1|s1:9 ;|n2:1 volume|end2:7 ",
		"code 2 +\t1 ;\r\n":      "n1:1 code|#1:6 2|s1:8 +|#1:10 1|s1:12 ;|end2:1 ",
		"lawlaw extent1 1extent": "n1:1 lawlaw|n1:8 extent1|#1:16 1|n1:17 extent|end1:23 ",
	} {
		checkTokens(t, text, want)
	}
}

// P8.1: comments begin everywhere, also right behind a token, contain any byte, and end before a line feed or at the end.
func TestComments(t *testing.T) {
	for text, want := range map[string]string{
		"#a":                                    "end1:3 ",
		"# a b 1 { ; \" - . \x80":               "end1:20 ",
		"##":                                    "end1:3 ",
		"#\n#":                                  "end2:2 ",
		"#\n#\n":                                "end3:1 ",
		"#\na":                                  "n2:1 a|end2:2 ",
		"a#b":                                   "n1:1 a|end1:4 ",
		"a#b\nc":                                "n1:1 a|n2:1 c|end2:2 ",
		"a #b\n#c\n #d\nd#e":                    "n1:1 a|n4:1 d|end4:4 ",
		"1#2\n3":                                "#1:1 1|#2:1 3|end2:2 ",
		"{#}\n}":                                "s1:1 {|s2:1 }|end2:2 ",
		"/##/#\n/":                              "s1:1 /|s2:1 /|end2:2 ",
		"#a\rb\nc":                              "n2:1 c|end2:2 ",
		"#a\r\nb":                               "n2:1 b|end2:2 ",
		"#a\tb \v\f\x00\xff\n;":                 "s2:1 ;|end2:2 ",
		"# \u00e9 \u2028 \u0085\n;":             "s2:1 ;|end2:2 ",
		"#" + strings.Repeat("x", 17) + "\n1":   "#2:1 1|end2:2 ",
		"#" + strings.Repeat("1", 41) + "\nx#;": "n2:1 x|end2:4 ",
		"extent #1;\n2 # 3;\n; # end":           "n1:1 extent|#2:1 2|s3:1 ;|end3:8 ",
	} {
		checkTokens(t, text, want)
	}
	for c := range 256 {
		b := string([]byte{byte(c)})
		if b == "\n" {
			continue
		}
		checkTokens(t, "#"+b, "end1:3 ")
		checkTokens(t, "a#x"+b+"y\nb", "n1:1 a|n2:1 b|end2:2 ")
		checkTokens(t, "1# x"+b, "#1:1 1|end1:6 ")
	}
}

// P8.1 and P8.3: every byte alone. The table says what the chapter says of it.
func TestEveryByte(t *testing.T) {
	for c := range 256 {
		text := string([]byte{byte(c)})
		switch {
		case strings.Contains(letters, text):
			checkTokens(t, text, "n1:1 "+text+"|end1:2 ")
			checkTokens(t, "b"+text+"c", "n1:1 b"+text+"c|end1:4 ")
			checkTokens(t, "7"+text+"8", "#1:1 7|n1:2 "+text+"8|end1:4 ")
		case strings.Contains(digits, text):
			checkTokens(t, text, "#1:1 "+text+"|end1:2 ")
			checkTokens(t, "b"+text+"c", "n1:1 b"+text+"c|end1:4 ")
			checkTokens(t, "7"+text+"8", "#1:1 7"+text+"8|end1:4 ")
		case strings.Contains(allSigns, text):
			checkTokens(t, text, "s1:1 "+text+"|end1:2 ")
			checkTokens(t, "b"+text+"c", "n1:1 b|s1:2 "+text+"|n1:3 c|end1:4 ")
			checkTokens(t, "7"+text+"8", "#1:1 7|s1:2 "+text+"|#1:3 8|end1:4 ")
		case text == "\n":
			checkTokens(t, text, "end2:1 ")
			checkTokens(t, "b"+text+"c", "n1:1 b|n2:1 c|end2:2 ")
			checkTokens(t, "7"+text+"8", "#1:1 7|#2:1 8|end2:2 ")
		case strings.Contains(" \t\r", text):
			checkTokens(t, text, "end1:2 ")
			checkTokens(t, "b"+text+"c", "n1:1 b|n1:3 c|end1:4 ")
			checkTokens(t, "7"+text+"8", "#1:1 7|#1:3 8|end1:4 ")
		case text == "#":
			checkTokens(t, text, "end1:2 ")
			checkTokens(t, "b"+text+"c", "n1:1 b|end1:4 ")
			checkTokens(t, "7"+text+"8", "#1:1 7|end1:4 ")
		case text == "-" || text == ".":
			checkError(t, text, api.ErrSyntax, 1, 1)
			checkTokens(t, "b"+text+"c", "n1:1 b"+text+"c|end1:4 ")
			checkError(t, "7"+text+"8", api.ErrSyntax, 1, 2)
		default:
			checkError(t, text, api.ErrSyntax, 1, 1)
			checkError(t, "b"+text+"c", api.ErrSyntax, 1, 2)
			checkError(t, "7"+text+"8", api.ErrSyntax, 1, 2)
		}
	}
}

// P8.1 to P8.3: all pairs of bytes, with a token before and behind them and without.
func TestPairs(t *testing.T) {
	for c := range 256 * 256 {
		pair := string([]byte{byte(c >> 8), byte(c)})
		check(t, pair)
		check(t, "x"+pair+"y")
	}
}

// P8.1 to P8.3: all short texts of bytes of every kind.
func TestShortTexts(t *testing.T) {
	const kinds = "aZ09-.{/# \n\r\x80"
	texts := []string{""}
	for range 4 {
		for _, text := range texts {
			check(t, text)
		}
		var longer []string
		for _, text := range texts {
			for i := range len(kinds) {
				longer = append(longer, text+kinds[i:i+1])
			}
		}
		texts = longer
	}
	for _, text := range texts {
		check(t, text)
	}
}

// P8.1 to P8.3: random texts.
func TestRandomTexts(t *testing.T) {
	r := rand.New(rand.NewSource(1))
	var found [3]int
	for range 3000 {
		text := randomText(r, r.Intn(60), []int{0, 0, 100, 20, 5}[r.Intn(5)])
		check(t, text)
		switch scan(text).err {
		case api.OK:
			found[0]++
		case api.ErrSyntax:
			found[1]++
		case api.ErrSize:
			found[2]++
		}
	}
	for range 2000 {
		check(t, from(r, letters+digits+digits+"-.{};,+/####  \t\r\n\n\n", r.Intn(200)))
	}
	if found[0] < 1000 || found[1] < 200 || found[2] < 200 {
		t.Errorf("texts without an error, with ErrSyntax and with ErrSize: %v", found)
	}
}
