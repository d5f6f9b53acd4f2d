package lex_test

import (
	"errors"
	"slices"
	"strings"
	"testing"
	"unsafe"

	"ropewalk/api"
	"ropewalk/lex"
)

// ask is Scan's answer; an error must be a Fault that comes of nothing, and have no tokens beside it.
func ask(t *testing.T, text string) answer {
	t.Helper()
	l, err := lex.Scan(text)
	if err == nil {
		return answer{tokens: l}
	}
	f, ok := err.(*api.Fault)
	if !ok || f == nil || f.Why != nil || f.Code == api.OK || len(l) != 0 {
		t.Fatalf("%.40q: %d tokens, %#v", text, len(l), err)
	}
	return answer{code: f.Code, at: f.At}
}

func same(a, b answer) bool {
	return a.code == b.code && a.at == b.at && slices.Equal(a.tokens, b.tokens)
}

func want(t *testing.T, text string, w answer) {
	t.Helper()
	if got := ask(t, text); !same(got, w) {
		t.Errorf("%.40q: %.200v, not %.200v", text, got, w)
	}
}

// tokens is an answer without an error: the tokens, and the End at a place.
func tokens(end int, l ...api.Token) answer {
	return answer{tokens: append(l, api.Token{Kind: api.End, At: end})}
}

func tok(kind, at int, text string) api.Token { return api.Token{Kind: kind, At: at, Text: text} }

func wrong(code api.Errno, at int) answer { return answer{code: code, at: at} }

// P3.1: the chapter's examples.
func TestExamples(t *testing.T) {
	want(t, "add(s(X),z) -> X1", tokens(17,
		tok(api.Name, 0, "add"), tok(api.Open, 3, "("), tok(api.Name, 4, "s"), tok(api.Open, 5, "("), tok(api.Variable, 6, "X"), tok(api.Close, 7, ")"),
		tok(api.Comma, 8, ","), tok(api.Name, 9, "z"), tok(api.Close, 10, ")"), tok(api.Arrow, 12, "->"), tok(api.Variable, 15, "X1")))
	want(t, "", tokens(0))
	want(t, "% x", tokens(3))
	want(t, "a2B3", tokens(4, tok(api.Name, 0, "a2"), tok(api.Variable, 2, "B3")))
	want(t, "a - b", wrong(api.ErrLexByte, 2))
	want(t, "a_b", wrong(api.ErrLexByte, 1))
	want(t, "a\xc3", wrong(api.ErrLexByte, 1))
	want(t, "x abcdefghijklm", wrong(api.ErrLexName, 2))
	want(t, "0 00", wrong(api.ErrLexNumber, 2))
	want(t, "1234567890", wrong(api.ErrLexNumber, 0))
}

// P3.1: every kind of token, with blanks and comments between, and its number.
func TestKinds(t *testing.T) {
	text := " con\tz/0 ;%one\nX9 ->\r\n( ) , . : *  % the end"
	want(t, text, tokens(len(text),
		tok(1, 1, "con"), tok(1, 5, "z"), tok(9, 6, "/"), tok(3, 7, "0"), tok(7, 9, ";"), tok(2, 15, "X9"), tok(8, 18, "->"),
		tok(4, 22, "("), tok(5, 24, ")"), tok(6, 26, ","), tok(10, 28, "."), tok(11, 30, ":"), tok(12, 32, "*")))
	want(t, "(),;/.:*->", tokens(10,
		tok(4, 0, "("), tok(5, 1, ")"), tok(6, 2, ","), tok(7, 3, ";"), tok(9, 4, "/"), tok(10, 5, "."), tok(11, 6, ":"), tok(12, 7, "*"), tok(8, 8, "->")))
	if api.End != 13 {
		t.Errorf("End is %d", api.End)
	}
}

// P3.1: the longest row that a first letter begins, and no more.
func TestRows(t *testing.T) {
	want(t, "aB", tokens(2, tok(api.Name, 0, "a"), tok(api.Variable, 1, "B")))
	want(t, "aBcD1e", tokens(6, tok(api.Name, 0, "a"), tok(api.Variable, 1, "BcD1e")))
	want(t, "Ba", tokens(2, tok(api.Variable, 0, "Ba")))
	want(t, "B1a2C3", tokens(6, tok(api.Variable, 0, "B1a2C3")))
	want(t, "1a", tokens(2, tok(api.Number, 0, "1"), tok(api.Name, 1, "a")))
	want(t, "12A3", tokens(4, tok(api.Number, 0, "12"), tok(api.Variable, 2, "A3")))
	want(t, "a1", tokens(2, tok(api.Name, 0, "a1")))
	want(t, "a00", tokens(3, tok(api.Name, 0, "a00")))
	want(t, "azAZ09", tokens(6, tok(api.Name, 0, "az"), tok(api.Variable, 2, "AZ09")))
	want(t, "a b", tokens(3, tok(api.Name, 0, "a"), tok(api.Name, 2, "b")))
	want(t, "a%\nb", tokens(4, tok(api.Name, 0, "a"), tok(api.Name, 3, "b")))
	want(t, "((", tokens(2, tok(api.Open, 0, "("), tok(api.Open, 1, "(")))
	want(t, "a(1", tokens(3, tok(api.Name, 0, "a"), tok(api.Open, 1, "("), tok(api.Number, 2, "1")))
}

// P3.1: four bytes are blanks; what other tables take for blank is none.
func TestBlanks(t *testing.T) {
	want(t, "\t\n\r \t\n\r ", tokens(8))
	for _, s := range []string{"\v", "\f", "\x00", "\b", "\x0e", "\x1f", "\x7f", "\x85", "\xa0", "\u0085", "\u00a0", "\u1680", "\u2003", "\u2028", "\u3000", "\ufeff"} {
		want(t, s, wrong(api.ErrLexByte, 0))
		want(t, " "+s+" ", wrong(api.ErrLexByte, 1))
		want(t, "a"+s+"b", wrong(api.ErrLexByte, 1))
	}
}

// P3.1: a comment goes up to a line feed, or to the end, whatever stands in it.
func TestComments(t *testing.T) {
	want(t, "%", tokens(1))
	want(t, "%\n", tokens(2))
	want(t, "%%\n%", tokens(4))
	want(t, "a%", tokens(2, tok(api.Name, 0, "a")))
	want(t, "a% b\nc", tokens(6, tok(api.Name, 0, "a"), tok(api.Name, 5, "c")))
	want(t, "%a\rb\nc", tokens(6, tok(api.Name, 5, "c")))
	want(t, "%a\r\nc", tokens(5, tok(api.Name, 4, "c")))
	want(t, "% _ - 00 abcdefghijklmn 1234567890\nc", tokens(36, tok(api.Name, 35, "c")))
	want(t, "%é\nc", tokens(5, tok(api.Name, 4, "c")))
	want(t, "%\xc3\nc", tokens(4, tok(api.Name, 3, "c")))
	want(t, "%\xe2\x80\nc", tokens(5, tok(api.Name, 4, "c")))
	want(t, "%\xff\xfe\x80", tokens(4))
	want(t, "%\u2028c\u0085d", tokens(8))
	want(t, "% a % b\nc % d", tokens(13, tok(api.Name, 8, "c")))
	want(t, "%\n_", wrong(api.ErrLexByte, 2))
	want(t, "%é\né", wrong(api.ErrLexByte, 4))
	want(t, "_%", wrong(api.ErrLexByte, 0))
}

// P3.1: an arrow is two bytes, with nothing between.
func TestArrows(t *testing.T) {
	arrow := func(at int) api.Token { return tok(api.Arrow, at, "->") }
	want(t, "->", tokens(2, arrow(0)))
	want(t, "->->", tokens(4, arrow(0), arrow(2)))
	want(t, "a->b", tokens(4, tok(api.Name, 0, "a"), arrow(1), tok(api.Name, 3, "b")))
	for text, at := range map[string]int{
		"-": 0, "a-": 1, "a -": 2, "->-": 2, "->>": 2, "-->": 0, "- >": 0, "-\n>": 0, "-%\n>": 0, "-1": 0, "-a": 0, "--": 0, ">": 0, "a>": 1, "->\n-": 3, "-é": 0, "-\xff": 0, "-(": 0,
	} {
		want(t, text, wrong(api.ErrLexByte, at))
	}
}

// P3.1: names and variables of 12 bytes and of 13, wherever they stand.
func TestNameLengths(t *testing.T) {
	for n := 1; n <= 40; n++ {
		name, variable := strings.Repeat("b", n), strings.Repeat("B", n)
		if n <= 12 {
			want(t, name, tokens(n, tok(api.Name, 0, name)))
			want(t, "("+variable+")", tokens(n+2, tok(api.Open, 0, "("), tok(api.Variable, 1, variable), tok(api.Close, n+1, ")")))
		} else {
			want(t, name, wrong(api.ErrLexName, 0))
			want(t, "("+variable+")", wrong(api.ErrLexName, 1))
		}
	}
	want(t, "a23456789012", tokens(12, tok(api.Name, 0, "a23456789012")))
	want(t, "a234567890123", wrong(api.ErrLexName, 0))
	want(t, "Ab3456789C12", tokens(12, tok(api.Variable, 0, "Ab3456789C12")))
	want(t, "Ab3456789C12d", wrong(api.ErrLexName, 0))
	want(t, "abcdefghijklM", tokens(13, tok(api.Name, 0, "abcdefghijkl"), tok(api.Variable, 12, "M")))
	want(t, "ABCDEFGHIJKL_", wrong(api.ErrLexByte, 12))
	want(t, strings.Repeat("a", 20000), wrong(api.ErrLexName, 0))
}

// P3.1: numbers of nine digits and of ten; 0 alone, and ahead of others.
func TestNumbers(t *testing.T) {
	for _, s := range []string{"0", "1", "9", "10", "100", "123456789", "999999999", "900000000"} {
		want(t, s, tokens(len(s), tok(api.Number, 0, s)))
		want(t, " "+s+"a", tokens(len(s)+2, tok(api.Number, 1, s), tok(api.Name, len(s)+1, "a")))
	}
	for _, s := range []string{"00", "01", "000", "09", "000000000", "0123456789", "012345678", "1234567890", "1000000000", "9999999999", strings.Repeat("1", 20000), strings.Repeat("0", 20000)} {
		want(t, s, wrong(api.ErrLexNumber, 0))
	}
	want(t, "0 0", tokens(3, tok(api.Number, 0, "0"), tok(api.Number, 2, "0")))
	want(t, "0.0:0", tokens(5, tok(api.Number, 0, "0"), tok(api.Dot, 1, "."), tok(api.Number, 2, "0"), tok(api.Colon, 3, ":"), tok(api.Number, 4, "0")))
	want(t, "1.00", wrong(api.ErrLexNumber, 2))
	want(t, "٣", wrong(api.ErrLexByte, 0))
	want(t, "1٣", wrong(api.ErrLexByte, 1))
}

// P3.1: 20000 bytes and 20001; bytes are counted, not runes, and the length is looked at ahead of all else.
func TestTextLengths(t *testing.T) {
	want(t, strings.Repeat(" ", 20000), tokens(20000))
	want(t, strings.Repeat(" ", 20001), wrong(api.ErrLexLong, 0))
	want(t, "%"+strings.Repeat("é", 9999)+"x", tokens(20000))
	want(t, "%"+strings.Repeat("é", 10000), wrong(api.ErrLexLong, 0))
	want(t, strings.Repeat("(", 20000), model(strings.Repeat("(", 20000)))
	want(t, strings.Repeat("->", 10000), model(strings.Repeat("->", 10000)))
	want(t, strings.Repeat(" ", 19999)+"_", wrong(api.ErrLexByte, 19999))
	want(t, strings.Repeat(" ", 19999)+"-", wrong(api.ErrLexByte, 19999))
	want(t, strings.Repeat(" ", 20000)+"_", wrong(api.ErrLexLong, 0))
	for _, s := range []string{"_", "é", "abcdefghijklm ", "00 "} {
		want(t, s+strings.Repeat(" ", 20000), wrong(api.ErrLexLong, 0))
	}
	want(t, strings.Repeat("a", 1<<20), wrong(api.ErrLexLong, 0))
}

// P3.1, R2: of several errors the first one from the left.
func TestFirstFromTheLeft(t *testing.T) {
	bad := []struct {
		text string
		code api.Errno
	}{{"_", api.ErrLexByte}, {"-", api.ErrLexByte}, {"é", api.ErrLexByte}, {"\xff", api.ErrLexByte}, {"abcdefghijklm", api.ErrLexName}, {"ABCDEFGHIJKLM", api.ErrLexName}, {"00", api.ErrLexNumber}, {"1234567890", api.ErrLexNumber}}
	for _, x := range bad {
		for _, y := range bad {
			want(t, x.text+" "+y.text, wrong(x.code, 0))
			want(t, "f(% "+y.text+"\n"+x.text+","+y.text+")", wrong(x.code, 5+len(y.text)))
		}
	}
	want(t, "abcdefghijklm_", wrong(api.ErrLexName, 0))
	want(t, "a_bcdefghijklmno", wrong(api.ErrLexByte, 1))
	want(t, "00abcdefghijklm", wrong(api.ErrLexNumber, 0))
	want(t, "1abcdefghijklm00", wrong(api.ErrLexName, 1))
}

// P3.1, R1: every byte, and every pair of them, alone and among others.
func TestEveryTwoBytes(t *testing.T) {
	for i := range 256 {
		for k := range 256 {
			two := string([]byte{byte(i), byte(k)})
			for _, s := range []string{two[:1], two, "a" + two, "X" + two + "9", "%" + two + "\n", "0" + two, "-" + two} {
				want(t, s, model(s))
			}
		}
	}
}

// P3.1, R1: against a scanner of the tests' own.
func TestAgainstModel(t *testing.T) {
	for _, s := range slices.Concat(shortTexts(4), someTexts(5000)) {
		want(t, s, model(s))
	}
}

// P3.2: two texts with a line feed between: also where one of them is refused.
func TestTwoTexts(t *testing.T) {
	l := append(someTexts(300), "", "% to the end", "-", "a-", "\xc3", "%\xc3", "abcdefghijkl", "123456789", "0", "\xa9")
	for _, a := range l {
		for _, b := range l {
			x, y := ask(t, a), ask(t, b)
			joined := y
			switch {
			case x.code != api.OK:
				joined = x
			case y.code != api.OK:
				joined.at += len(a) + 1
			default:
				joined.tokens = x.tokens[:len(x.tokens)-1]
				for _, k := range y.tokens {
					k.At += len(a) + 1
					joined.tokens = append(joined.tokens, k)
				}
			}
			want(t, a+"\n"+b, joined)
		}
	}
}

// P3.2: a token's Text stands at its place; between tokens stand blanks and comments alone, and other ones there change nothing but places.
func TestBetweenTokens(t *testing.T) {
	for _, s := range someTexts(3000) {
		x := ask(t, s)
		if x.code != api.OK {
			continue
		}
		behind, spaced := 0, ""
		for _, k := range x.tokens {
			if k.At < behind || !strings.HasPrefix(s[k.At:], k.Text) {
				t.Fatalf("%q: the token %v does not stand there", s, k)
			}
			want(t, s[behind:k.At], tokens(k.At-behind))
			behind = k.At + len(k.Text)
			spaced += "%-\xff\n \t" + k.Text + "\r"
		}
		if behind != len(s) {
			t.Errorf("%q: the End at %d", s, behind)
		}
		y := ask(t, spaced)
		if !slices.EqualFunc(x.tokens, y.tokens, func(a, b api.Token) bool { return a.Kind == b.Kind && a.Text == b.Text }) {
			t.Errorf("%q: %v with other blanks", s, y)
		}
	}
}

// R4, R5: each answer is new memory, spare room too; the same text is answered the same each time.
func TestAnswersAreNew(t *testing.T) {
	text := "add(s(X),z) -> X1 % end"
	a, _ := lex.Scan(text)
	b, _ := lex.Scan(text)
	for i := range a[:cap(a)] {
		a[:cap(a)][i] = tok(99, 99, "other")
	}
	if !same(answer{tokens: b}, model(text)) {
		t.Errorf("changed with another answer: %v", b)
	}
	want(t, text, model(text))
	from := uintptr(unsafe.Pointer(unsafe.StringData(text)))
	for _, k := range b {
		at := uintptr(unsafe.Pointer(unsafe.StringData(k.Text)))
		if len(k.Text) > 0 && from <= at && at < from+uintptr(len(text)) {
			t.Errorf("the token %v is a piece of the text's own memory", k)
		}
	}
}

// Errors: a Fault bears its number and no other, and is another one each time; without an error it is nil.
func TestFaults(t *testing.T) {
	for code, text := range map[api.Errno]string{30: strings.Repeat(" ", 20001), 31: "_", 32: "abcdefghijklm", 33: "00"} {
		_, err := lex.Scan(text)
		_, again := lex.Scan(text)
		var f, g *api.Fault
		if !errors.As(err, &f) || !errors.As(again, &g) || f == g {
			t.Fatalf("%.20q: %v, %v", text, err, again)
		}
		f.Code, f.At = 7, 7
		if _, third := lex.Scan(text); !errors.Is(third, code) || !errors.Is(again, code) {
			t.Errorf("%.20q: %v, %v", text, again, third)
		}
		for other := api.Errno(0); other < 250; other++ {
			if errors.Is(again, other) != (other == code) {
				t.Errorf("%.20q: %v is %d", text, again, int(other))
			}
		}
	}
	if _, err := lex.Scan("a"); err != nil {
		t.Errorf("%v", err)
	}
	if api.MaxText != 20000 || api.MaxName != 12 {
		t.Error("limits")
	}
}
