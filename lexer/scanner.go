package lexer

import (
	"strings"

	"drydock/api"
)

// scanner goes through a text. It knows the line of the next byte, so that no place has to be counted from the beginning.
type scanner struct {
	text      string
	next      int // the index of the next byte
	line      int
	lineStart int // the index of the first byte of the line
}

// pos returns the position of the next byte.
func (s *scanner) pos() api.Pos {
	return api.Pos{Line: s.line, Col: 1 + s.next - s.lineStart}
}

// atEnd reports whether there is no next byte.
func (s *scanner) atEnd() bool {
	return s.next == len(s.text)
}

// moveTo makes the byte at the index end, which is not before the next byte, the next one.
func (s *scanner) moveTo(end int) {
	for ; s.next < end; s.next++ {
		if s.text[s.next] == lineFeed {
			s.line++
			s.lineStart = s.next + 1
		}
	}
}

// skip passes space and comments.
func (s *scanner) skip() {
	s.pass(isSpace)
	for !s.atEnd() && s.text[s.next] == commentSign {
		s.pass(func(c byte) bool { return c != lineFeed })
		s.pass(isSpace)
	}
}

// pass moves behind the longest row of bytes of a class that begins at the next byte.
func (s *scanner) pass(in class) {
	s.moveTo(rowEnd(s.text, s.next, in))
}

// token returns the token that begins at the next byte.
func (s *scanner) token() (api.Token, api.Errno) {
	switch c := s.text[s.next]; {
	case isLetter(c):
		return s.row(api.TokenName, isNameByte, api.MaxName)
	case isDigit(c):
		return s.row(api.TokenNumber, isDigit, maxDigits)
	case isSign(c):
		return s.take(api.TokenSign, s.next+1), api.OK
	}
	return api.Token{}, api.ErrSyntax
}

// row returns the token that is the longest row of bytes of a class, if it has at most limit bytes.
func (s *scanner) row(kind int, in class, limit int) (api.Token, api.Errno) {
	end := rowEnd(s.text, s.next, in)
	if end-s.next > limit {
		return api.Token{}, api.ErrSize
	}
	return s.take(kind, end), api.OK
}

// take returns the token from the next byte up to the index end.
func (s *scanner) take(kind, end int) api.Token {
	// A part of the text would share its memory and keep all of it.
	return api.Token{Kind: kind, Text: strings.Clone(s.text[s.next:end]), Pos: s.pos()}
}
