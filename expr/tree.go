package expr

import (
	"strings"

	"curtain/api"
)

// Tree is an expression: one token, or a bracket, of which the token is the head.
type Tree struct {
	Token
	Bracket  bool
	Operands []Tree
}

// Parse reads a text as an expression; ErrText, if it is none.
func Parse(s string) (Tree, api.Errno) {
	if len(s) > api.MaxText {
		return Tree{}, api.ErrText
	}
	tokens, ok := scan(s)
	if !ok {
		return Tree{}, api.ErrText
	}
	r := reader{rest: tokens}
	t, ok := r.tree(0)
	if !ok || len(r.rest) > 0 {
		return Tree{}, api.ErrText
	}
	return t, api.OK
}

// reader hands out the tokens that are not yet read.
type reader struct {
	rest []Token
}

// next takes a token; behind the last one that is NoToken, which fits nowhere.
func (r *reader) next() Token {
	if len(r.rest) == 0 {
		return Token{}
	}
	t := r.rest[0]
	r.rest = r.rest[1:]
	return t
}

// closes takes the next token, if that is a closing bracket.
func (r *reader) closes() bool {
	if len(r.rest) == 0 || r.rest[0].Kind != Close {
		return false
	}
	r.next()
	return true
}

// tree reads an expression that stands within deep brackets.
func (r *reader) tree(deep int) (Tree, bool) {
	t := r.next()
	if t.Kind == Open {
		return r.bracket(deep + 1)
	}
	if !standsAlone(t) {
		return Tree{}, false
	}
	return Tree{Token: t}, true
}

// bracket reads what is behind an opening bracket that is deep deep, and the closing one.
func (r *reader) bracket(deep int) (Tree, bool) {
	head := r.next()
	if deep > api.MaxDeep || !isHead(head) {
		return Tree{}, false
	}
	t := Tree{Token: head, Bracket: true}
	for !r.closes() {
		operand, ok := r.tree(deep)
		if !ok {
			return Tree{}, false
		}
		t.Operands = append(t.Operands, operand)
	}
	return t, true
}

func standsAlone(t Token) bool {
	switch t.Kind {
	case Numeral, Quote, Column, Parameter:
		return true
	}
	return IsValueWord(t.Text)
}

func isHead(t Token) bool {
	return t.Kind == Operator || t.Kind == Word && !IsValueWord(t.Text)
}

// IsValueWord tells the words that are expressions by themselves from those that are heads.
func IsValueWord(word string) bool {
	switch word {
	case "true", "false", "user":
		return true
	}
	return false
}

// String writes the expression in its one right way, in memory of its own.
func (t Tree) String() string {
	var b strings.Builder
	t.write(&b)
	return b.String()
}

func (t Tree) write(b *strings.Builder) {
	if !t.Bracket {
		b.WriteString(t.Text)
		return
	}
	b.WriteByte('(')
	b.WriteString(t.Text)
	for _, operand := range t.Operands {
		b.WriteByte(' ')
		operand.write(b)
	}
	b.WriteByte(')')
}
