// Package expr: expressions as texts, as tokens and as trees.
package expr

import (
	"strings"

	"curtain/api"
)

// Kind tells what a token is.
type Kind int

const (
	NoToken Kind = iota
	Open
	Close
	Numeral
	Quote
	Word
	Column
	Parameter
	Operator
)

// Token is a token as it stands in the text.
type Token struct {
	Kind Kind
	Text string
}

// scan takes a text apart; false, if a piece of it is no token.
func scan(s string) ([]Token, bool) {
	var tokens []Token
	for len(s) > 0 {
		if isBlank(s[0]) {
			s = s[1:]
			continue
		}
		piece := s[:pieceLength(s)]
		kind := kindOf(piece)
		if kind == NoToken {
			return nil, false
		}
		tokens = append(tokens, Token{Kind: kind, Text: piece})
		s = s[len(piece):]
	}
	return tokens, true
}

// pieceLength measures the piece at the head of s, which does not begin with a blank.
// A piece goes on up to a blank or a bracket, and not just up to its token's end:
// two tokens without a blank between them are thus one piece, which is no token.
func pieceLength(s string) int {
	if isBracket(s[0]) {
		return 1
	}
	n := quoteLength(s)
	for n < len(s) && !isBlank(s[n]) && !isBracket(s[n]) {
		n++
	}
	return n
}

// quoteLength measures the quote at the head of s, in which blanks and brackets end nothing; 0, if none ends there.
func quoteLength(s string) int {
	if s[0] != '\'' {
		return 0
	}
	end := strings.IndexByte(s[1:], '\'')
	if end < 0 {
		return 0
	}
	return end + 2
}

func kindOf(piece string) Kind {
	switch {
	case piece == "(":
		return Open
	case piece == ")":
		return Close
	case isOperator(piece):
		return Operator
	case isNumeral(piece):
		return Numeral
	case isQuote(piece):
		return Quote
	case isParameter(piece):
		return Parameter
	case IsWord(piece):
		return Word
	case isColumn(piece):
		return Column
	}
	return NoToken
}

func isBlank(c byte) bool   { return c == ' ' || c == '\t' || c == '\n' }
func isBracket(c byte) bool { return c == '(' || c == ')' }
func isDigit(c byte) bool   { return '0' <= c && c <= '9' }
func isLetter(c byte) bool  { return 'a' <= c && c <= 'z' }

func isOperator(s string) bool {
	switch s {
	case "+", "-", "*", "/", "=", "<", "<=":
		return true
	}
	return false
}

func isNumeral(s string) bool {
	if s == "0" {
		return true
	}
	digits := strings.TrimPrefix(s, "-")
	if digits == "" || digits[0] == '0' {
		return false
	}
	n := 0
	for i := range len(digits) {
		if !isDigit(digits[i]) {
			return false
		}
		n = n*10 + int(digits[i]-'0')
		// Asked at each digit, so that no row of digits is long enough to wrap n round.
		if n > api.MaxNumber {
			return false
		}
	}
	return true
}

func isQuote(s string) bool {
	if len(s) < 2 || len(s) > api.MaxLong+2 || s[0] != '\'' || s[len(s)-1] != '\'' {
		return false
	}
	for i := 1; i < len(s)-1; i++ {
		if s[i] < 32 || s[i] > 126 || s[i] == '\'' {
			return false
		}
	}
	return true
}

func isParameter(s string) bool {
	return len(s) == 2 && s[0] == '$' && isDigit(s[1]) && s[1] != '0'
}

// IsWord tells whether a text is a word, and may thus be a name.
func IsWord(s string) bool {
	if s == "" || len(s) > api.MaxWord || !isLetter(s[0]) {
		return false
	}
	for i := range len(s) {
		if !isLetter(s[i]) && !isDigit(s[i]) {
			return false
		}
	}
	return true
}

func isColumn(s string) bool {
	before, after, dotted := strings.Cut(s, ".")
	return dotted && IsWord(before) && IsWord(after)
}
