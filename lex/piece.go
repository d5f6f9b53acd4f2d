package lex

import "ropewalk/api"

// Kinds of pieces beside the tokens' kinds, which are above 0.
const (
	blank   = -2
	comment = -1
	unknown = 0 // it begins nothing that may stand in a text
)

// maxDigits is how many digits a Number may have.
const maxDigits = 9

func isToken(kind int) bool { return kind > unknown }

// begun is the kind of the piece that a rune begins. A byte that is no whole rune comes as one that begins nothing.
func begun(r rune) int {
	switch {
	case small(r):
		return api.Name
	case great(r):
		return api.Variable
	case digit(r):
		return api.Number
	}
	switch r {
	case '\t', '\n', '\r', ' ':
		return blank
	case '%':
		return comment
	case '(':
		return api.Open
	case ')':
		return api.Close
	case ',':
		return api.Comma
	case ';':
		return api.Semi
	case '-':
		return api.Arrow
	case '/':
		return api.Slash
	case '.':
		return api.Dot
	case ':':
		return api.Colon
	case '*':
		return api.Star
	}
	return unknown
}

// first is the piece that a text begins with, of the kind that its first rune begins.
func first(kind int, text string) string {
	for at, r := range text {
		if at > 0 && !goesOn(kind, at, r) {
			return text[:at]
		}
	}
	return text
}

// goesOn tells whether a rune, so many bytes behind a piece's beginning, still belongs to it.
func goesOn(kind, at int, r rune) bool {
	switch kind {
	case api.Variable:
		if great(r) {
			return true
		}
		fallthrough // the rest of what a Variable goes on with is what a Name does
	case api.Name:
		if small(r) {
			return true
		}
		fallthrough // and the rest of that is what a Number does
	case api.Number:
		return digit(r)
	case api.Arrow:
		return at == 1 && r == '>'
	case comment:
		return r != '\n'
	}
	return false
}

// refusal is why a piece may not stand in a text, or OK.
func refusal(kind int, piece string) api.Errno {
	switch kind {
	case unknown:
		return api.ErrLexByte
	case api.Arrow:
		if piece != "->" {
			return api.ErrLexByte
		}
	case api.Name, api.Variable:
		if len(piece) > api.MaxName {
			return api.ErrLexName
		}
	case api.Number:
		if len(piece) > maxDigits || len(piece) > 1 && piece[0] == '0' {
			return api.ErrLexNumber
		}
	}
	return api.OK
}

func small(r rune) bool { return 'a' <= r && r <= 'z' }

func great(r rune) bool { return 'A' <= r && r <= 'Z' }

func digit(r rune) bool { return '0' <= r && r <= '9' }
