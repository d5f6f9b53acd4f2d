package lex_test

import (
	"math/rand"
	"strings"

	"ropewalk/api"
)

const (
	smallLetters = "abcdefghijklmnopqrstuvwxyz"
	greatLetters = "ABCDEFGHIJKLMNOPQRSTUVWXYZ"
	digits       = "0123456789"
	blanks       = "\t\n\r "
	signs        = "(),;/.:*"
)

// answer is what Scan answers: tokens, or an error at a place.
type answer struct {
	tokens []api.Token
	code   api.Errno
	at     int
}

// model is the tests' own way to cut a text: by bytes, the rest of the text getting shorter and shorter.
func model(text string) answer {
	if len(text) > 20000 {
		return answer{code: api.ErrLexLong}
	}
	var l []api.Token
	for rest := text; rest != ""; {
		at := len(text) - len(rest)
		kind, size, code := head(rest)
		if code != api.OK {
			return answer{code: code, at: at}
		}
		if kind != 0 {
			l = append(l, api.Token{Kind: kind, At: at, Text: rest[:size]})
		}
		rest = rest[size:]
	}
	return answer{tokens: append(l, api.Token{Kind: 13, At: len(text)})}
}

// head is what a text begins with: a token's kind (0: a blank or a comment), how many bytes it has, what is wrong with it.
func head(text string) (kind, size int, code api.Errno) {
	row := func(set string) int { return len(text) - len(strings.TrimLeft(text[1:], set)) }
	switch c := text[:1]; {
	case strings.Contains(smallLetters, c):
		return 1, row(smallLetters + digits), wrongIf(row(smallLetters+digits) > 12, api.ErrLexName)
	case strings.Contains(greatLetters, c):
		set := smallLetters + greatLetters + digits
		return 2, row(set), wrongIf(row(set) > 12, api.ErrLexName)
	case strings.Contains(digits, c):
		return 3, row(digits), wrongIf(row(digits) > 9 || c == "0" && row(digits) > 1, api.ErrLexNumber)
	case strings.HasPrefix(text, "->"):
		return 8, 2, api.OK
	case strings.Contains(signs, c):
		return []int{4, 5, 6, 7, 9, 10, 11, 12}[strings.Index(signs, c)], 1, api.OK
	case strings.Contains(blanks, c):
		return 0, 1, api.OK
	case c == "%":
		line, _, _ := strings.Cut(text, "\n")
		return 0, len(line), api.OK
	}
	return 0, 0, api.ErrLexByte
}

func wrongIf(wrong bool, code api.Errno) api.Errno {
	if wrong {
		return code
	}
	return api.OK
}

// shortTexts gives all texts of at most so many of the letters that differ most.
func shortTexts(most int) []string {
	letters := []string{"a", "Z", "0", "7", "-", ">", "%", "\n", " ", "(", "_", "\xc3", "\xa9"}
	l, last := []string{""}, []string{""}
	for range most {
		var longer []string
		for _, x := range last {
			for _, y := range letters {
				longer = append(longer, x+y)
			}
		}
		l, last = append(l, longer...), longer
	}
	return l
}

// someTexts are longer ones that a seed's numbers choose, most of them without an error.
func someTexts(many int) []string {
	parts := []string{
		"a", "add", "s1", "abcdefghijkl", "X", "Yz9", "ABCdefGHI123", "0", "7", "10", "999999999", "(", ")", ",", ";", "->", "/", ".", ":", "*",
		" ", "\t", "\r", "\n", "% no\xff_-\n", "%\n", "%é%\r\n", "% to the end", " ", "\n", "(", ")",
	}
	wrong := []string{"abcdefghijklm", "ABCDEFGHIJKLM", "00", "1234567890", "-", "_", ">", "\x00", "é", "\xff", "\v", "\u00a0"}
	r := rand.New(rand.NewSource(3))
	l := make([]string, many)
	for i := range l {
		for range r.Intn(30) {
			l[i] += parts[r.Intn(len(parts))]
			if r.Intn(60) == 0 {
				l[i] += wrong[r.Intn(len(wrong))]
			}
		}
	}
	return l
}
