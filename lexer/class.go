package lexer

import "strings"

// class is a class of bytes.
type class func(c byte) bool

const (
	signs       = "{};,+/"
	lineFeed    = '\n'
	commentSign = '#'
)

func isLetter(c byte) bool {
	return c >= 'a' && c <= 'z' || c >= 'A' && c <= 'Z'
}

func isDigit(c byte) bool {
	return c >= '0' && c <= '9'
}

// isNameByte reports whether c may stand in a name behind its first byte.
func isNameByte(c byte) bool {
	return isLetter(c) || isDigit(c) || c == '-' || c == '.'
}

func isSign(c byte) bool {
	return strings.IndexByte(signs, c) >= 0
}

func isSpace(c byte) bool {
	return c == ' ' || c == '\t' || c == lineFeed || c == '\r'
}

// rowEnd returns the end of the longest row of bytes of a class that begins at the index start.
func rowEnd(text string, start int, in class) int {
	end := start
	for end < len(text) && in(text[end]) {
		end++
	}
	return end
}
