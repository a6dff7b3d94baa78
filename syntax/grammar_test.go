package syntax_test

import (
	"fmt"
	"math/rand"
	"regexp"
	"strings"

	"drydock/api"
)

// The tests read the grammar as the chapter writes it, follow it token by token, and derive random texts from it, apart from the program.

const grammar = `
text     = extent law* model* site* policy* volume* END
extent   = "extent" NUMBER ";"
law      = "law" NAME "{" "start" fracs ";" "rates" fracs ("," fracs)* ";" "exit" fracs ";" "}"
model    = "model" NAME "{" "extents" NUMBER ";" "port" NUMBER ";" "law" NAME ";" "}"
site     = "site" head "{" room* "}"
room     = "room" head "{" rack* "}"
rack     = "rack" head "{" machine* "}"
machine  = "machine" head "{" drive* "}"
head     = NAME "uplink" NUMBER ("shock" frac)?
drive    = "drive" NAME NAME ";"
policy   = "policy" NAME "{" "code" NUMBER "+" NUMBER ";" "quorum" NUMBER ";" most* "on" NAME+ ";" "repair" fracs ";" "target" frac "in" frac ";" "}"
most     = "most" NUMBER ("site" | "room" | "rack" | "machine") ";"
volume   = "volume" NAME NAME ";"
fracs    = frac frac*
frac     = NUMBER ("/" NUMBER)?
`

// words are the words of the grammar.
var words = []string{"extent", "law", "start", "rates", "exit", "model", "extents", "port", "site", "room", "rack", "machine", "uplink", "shock", "drive", "policy", "code", "quorum", "most", "on", "repair", "target", "in", "volume"}

// expr is an expression of the grammar. Op is ' for a word or sign, K for a kind of tokens, R for a rule, S for a sequence, | for alternatives, * and ?.
type expr struct {
	op    byte
	text  string
	label string // of words, signs and kinds: the rule, the text, and the number of the kind in its rule
	parts []*expr
}

// reader reads the expressions of a rule.
type reader struct {
	rule  string
	items []string
	kinds map[string]int
}

// alternatives reads sequences with | between them.
func (r *reader) alternatives() *expr {
	out := &expr{op: '|', parts: []*expr{r.sequence()}}
	for len(r.items) > 0 && r.items[0] == "|" {
		r.items = r.items[1:]
		out.parts = append(out.parts, r.sequence())
	}
	return out
}

func (r *reader) sequence() *expr {
	out := &expr{op: 'S'}
	for len(r.items) > 0 && r.items[0] != "|" && r.items[0] != ")" {
		part := r.part()
		if len(r.items) > 0 && strings.Contains("*?+", r.items[0]) {
			switch r.items[0] {
			case "+":
				part = &expr{op: 'S', parts: []*expr{part, {op: '*', parts: []*expr{part}}}}
			default:
				part = &expr{op: r.items[0][0], parts: []*expr{part}}
			}
			r.items = r.items[1:]
		}
		out.parts = append(out.parts, part)
	}
	return out
}

func (r *reader) part() *expr {
	item := r.items[0]
	r.items = r.items[1:]
	switch {
	case item == "(":
		out := r.alternatives()
		r.items = r.items[1:]
		return out
	case item[0] == '"':
		text := strings.Trim(item, `"`)
		return &expr{op: '\'', text: text, label: r.rule + " " + text}
	case item == strings.ToUpper(item):
		r.kinds[item]++
		return &expr{op: 'K', text: item, label: fmt.Sprintf("%s %s %d", r.rule, item, r.kinds[item])}
	}
	return &expr{op: 'R', text: item}
}

// rules are the rules of the grammar by their names.
type rules map[string]*expr

func readGrammar() rules {
	out, item := rules{}, regexp.MustCompile(`"[^"]*"|[A-Za-z]+|[()|*?+]`)
	for _, line := range strings.Split(strings.TrimSpace(grammar), "\n") {
		name, right, _ := strings.Cut(line, "=")
		name = strings.TrimSpace(name)
		r := reader{rule: name, items: item.FindAllString(right, -1), kinds: map[string]int{}}
		out[name] = r.alternatives()
	}
	return out
}

// fits reports whether a word, a sign or a kind is that of the token.
func fits(e *expr, token api.Token) bool {
	if e.op == '\'' {
		return token.Text == e.text
	}
	return token.Kind == map[string]int{"NAME": api.TokenName, "NUMBER": api.TokenNumber, "END": api.TokenEnd}[e.text]
}

// empty reports whether no token at all may stand for e.
func (g rules) empty(e *expr) bool {
	switch e.op {
	case '\'', 'K':
		return false
	case 'R':
		return g.empty(g[e.text])
	case '|':
		for _, part := range e.parts {
			if g.empty(part) {
				return true
			}
		}
		return false
	case 'S':
		for _, part := range e.parts {
			if !g.empty(part) {
				return false
			}
		}
	}
	return true
}

// begins reports whether e may begin with the token.
func (g rules) begins(e *expr, token api.Token) bool {
	switch e.op {
	case '\'', 'K':
		return fits(e, token)
	case 'R':
		return g.begins(g[e.text], token)
	}
	for _, part := range e.parts {
		if g.begins(part, token) {
			return true
		}
		if e.op == 'S' && !g.empty(part) {
			return false
		}
	}
	return false
}

// follower follows a text through the grammar.
type follower struct {
	rules rules
	stack []*expr // what has to follow, the next one last
}

func (f *follower) push(e ...*expr) {
	for i := range e {
		f.stack = append(f.stack, e[len(e)-1-i])
	}
}

// step returns the label of the place of the grammar at which the token stands, or false if it may not stand there.
func (f *follower) step(token api.Token) (string, bool) {
	for {
		e := f.stack[len(f.stack)-1]
		f.stack = f.stack[:len(f.stack)-1]
		switch e.op {
		case '\'', 'K':
			return e.label, fits(e, token)
		case 'R':
			f.push(f.rules[e.text])
		case 'S':
			f.push(e.parts...)
		case '*':
			if f.rules.begins(e.parts[0], token) {
				f.push(e.parts[0], e)
			}
		case '?':
			if f.rules.begins(e.parts[0], token) {
				f.push(e.parts[0])
			}
		case '|':
			i := 0
			for i < len(e.parts) && !f.rules.begins(e.parts[i], token) {
				i++
			}
			if i == len(e.parts) {
				return "", false
			}
			f.push(e.parts[i])
		}
	}
}

// deriver derives random texts.
type deriver struct {
	rules rules
	r     *rand.Rand
	most  int // how often something is repeated
	odds  int // one number in odds is too large or a second number 0, none if odds is 0
	out   []string
	given map[string]bool // the levels of the bounds of a policy
}

// derive appends random tokens for e.
func (d *deriver) derive(e *expr) {
	switch e.op {
	case '\'':
		d.out = append(d.out, e.text)
	case 'K':
		switch {
		case e.text == "NAME":
			d.out = append(d.out, randomName(d.r))
		case e.text == "NUMBER":
			d.out = append(d.out, d.number(e.label))
		}
	case 'R':
		d.rule(e.text)
	case 'S':
		for _, part := range e.parts {
			d.derive(part)
		}
	case '|':
		d.derive(e.parts[d.r.Intn(len(e.parts))])
	case '*':
		for range d.r.Intn(d.most + 1) {
			d.derive(e.parts[0])
		}
	case '?':
		if d.r.Intn(2) == 0 {
			d.derive(e.parts[0])
		}
	}
}

// rule derives a rule. A second bound of a level is left out, mostly or, if there may be no errors, always.
func (d *deriver) rule(name string) {
	start := len(d.out)
	if name == "policy" {
		d.given = map[string]bool{}
	}
	d.derive(d.rules[name])
	if name != "most" {
		return
	}
	level := d.out[start+2]
	if d.given[level] && (d.odds == 0 || d.r.Intn(4) > 0) {
		d.out = d.out[:start]
	}
	d.given[level] = true
}

// number returns a number for a place of the grammar.
func (d *deriver) number(label string) string {
	wrong := d.odds > 0 && d.r.Intn(d.odds) == 0
	switch label {
	case "frac NUMBER 1":
		return randomDigits(d.r)
	case "frac NUMBER 2":
		if wrong {
			return strings.Repeat("0", 1+d.r.Intn(40))
		}
		digits := []byte(randomDigits(d.r))
		digits[len(digits)-1] = '1' + byte(d.r.Intn(9))
		return string(digits)
	}
	if wrong {
		return []string{"1000001", "2000000", "9999999", "01000001", "10000000", strings.Repeat("9", 40), "1" + strings.Repeat("0", 39), "18446744073709551616", "9223372036854775808"}[d.r.Intn(9)]
	}
	n := []int{d.r.Intn(10), d.r.Intn(10), d.r.Intn(10), d.r.Intn(1000001), 1000000}[d.r.Intn(5)]
	return strings.Repeat("0", []int{0, 0, 0, 1, 33}[d.r.Intn(5)]) + fmt.Sprint(n)
}

// randomDigits returns 1 to 40 digits.
func randomDigits(r *rand.Rand) string {
	n := []int{1, 1, 1, 1, 2, 2, 3, 10, 20, 40}[r.Intn(10)]
	return from(r, "0123456789", n)
}

const letters = "abcdefghijklmnopqrstuvwxyzABCDEFGHIJKLMNOPQRSTUVWXYZ"

// randomName returns a name, often one of the words of the grammar.
func randomName(r *rand.Rand) string {
	switch r.Intn(3) {
	case 0:
		return words[r.Intn(len(words))]
	case 1:
		return from(r, letters, 1)
	}
	return from(r, letters, 1) + from(r, letters+"0123456789-.", r.Intn(16))
}

// from returns n bytes of an alphabet.
func from(r *rand.Rand, alphabet string, n int) string {
	out := make([]byte, n)
	for i := range out {
		out[i] = alphabet[r.Intn(len(alphabet))]
	}
	return string(out)
}

// randomTokens returns the tokens of a random text of the grammar.
func randomTokens(r *rand.Rand, g rules, most, odds int) []string {
	d := deriver{rules: g, r: r, most: most, odds: odds}
	d.derive(g["text"])
	return d.out
}

// spread writes tokens with random space and comments between them, often with none.
func spread(r *rand.Rand, tokens []string) string {
	var out strings.Builder
	gaps := []string{"", "", " ", "\n", "\t", "\r\n  ", "#\n", " # 1 extent ; }\n", "\n#\xff\r\n\n"}
	out.WriteString(gaps[r.Intn(len(gaps))])
	for i, token := range tokens {
		gap := gaps[r.Intn(len(gaps))]
		if gap == "" && i > 0 && joins(tokens[i-1], token) {
			gap = " "
		}
		out.WriteString(gap + token)
	}
	out.WriteString([]string{"", "", " ", "\n", "# end"}[r.Intn(5)])
	return out.String()
}

// joins reports whether two tokens without space between them would be other tokens.
func joins(a, b string) bool {
	row := regexp.MustCompile(`^[A-Za-z0-9]`)
	if !row.MatchString(a) || !row.MatchString(b) {
		return false
	}
	return a[0] > '9' || b[0] <= '9'
}
