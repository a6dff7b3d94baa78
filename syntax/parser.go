package syntax

import (
	"drydock/api"
	"drydock/fraction"
)

// parser reads tokens in their order. An error moves it to the last token, the end, where every rule of the grammar ends, so that the rules need not look for errors.
type parser struct {
	tokens []api.Token
	next   int       // the index of the next token
	err    api.Errno // the first error
	pos    api.Pos   // its place
}

// token returns the next token.
func (p *parser) token() api.Token {
	return p.tokens[p.next]
}

// fail ends the reading with an error at a token.
func (p *parser) fail(err api.Errno, at api.Token) {
	if p.err == api.OK {
		p.err, p.pos = err, at.Pos
	}
	p.next = len(p.tokens) - 1
}

// accept passes the next token if it is a word or a sign of the grammar.
func (p *parser) accept(word string) bool {
	if p.token().Text != word {
		return false
	}
	p.next++
	return true
}

// require passes the next tokens, which have to be words and signs of the grammar.
func (p *parser) require(words ...string) {
	for _, word := range words {
		if !p.accept(word) {
			p.fail(api.ErrSyntax, p.token())
		}
	}
}

// take returns the next token, which has to have a kind, and passes it.
func (p *parser) take(kind int) api.Token {
	token := p.token()
	if token.Kind != kind {
		p.fail(api.ErrSyntax, token)
		return api.Token{}
	}
	p.next++
	return token
}

// name reads a name that is not declared here.
func (p *parser) name() string {
	return p.take(api.TokenName).Text
}

// names reads one name or more.
func (p *parser) names() []string {
	list := []string{p.name()}
	for p.token().Kind == api.TokenName {
		list = append(list, p.name())
	}
	return list
}

// number reads a number that stands for an int.
func (p *parser) number() int {
	token := p.take(api.TokenNumber)
	value := 0
	for i := range len(token.Text) {
		value = 10*value + int(token.Text[i]-'0')
		if value > maxNumber {
			p.fail(api.ErrSize, token)
			return 0
		}
	}
	return value
}

// frac reads a fraction.
func (p *parser) frac() api.Frac {
	token := p.take(api.TokenNumber)
	text := token.Text
	if p.accept("/") {
		token = p.take(api.TokenNumber)
		text += "/" + token.Text
	}
	x, err := fraction.Parse(text)
	if err != api.OK {
		p.fail(err, token)
	}
	return x
}

// fracs reads one fraction or more.
func (p *parser) fracs() []api.Frac {
	list := []api.Frac{p.frac()}
	for p.token().Kind == api.TokenNumber {
		list = append(list, p.frac())
	}
	return list
}
