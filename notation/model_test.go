package notation_test

import (
	"errors"
	"fmt"
	"math/rand"
	"strconv"
	"strings"
	"testing"

	"ropewalk/api"
	"ropewalk/lex"
	"ropewalk/notation"
	"ropewalk/sig"
)

// symbols: of every arity, the first ones as in the chapter; con and fun are names like others.
func symbols() []api.Symbol {
	return []api.Symbol{
		{Name: "z"}, {Name: "s", Arity: 1}, {Name: "add", Arity: 2, Defined: true},
		{Name: "three", Arity: 3}, {Name: "four", Arity: 4, Defined: true}, {Name: "five", Arity: 5}, {Name: "six", Arity: 6},
		{Name: "con", Defined: true}, {Name: "fun", Arity: 1}, {Name: "abcdefghijkl", Arity: 1}, {Name: "abcdefgh"}, {Name: "abcdefghi"},
	}
}

func con(name string, arity int) api.Symbol { return api.Symbol{Name: name, Arity: arity} }

func fun(name string, arity int) api.Symbol {
	return api.Symbol{Name: name, Arity: arity, Defined: true}
}

func rule(left, right api.Term) api.Rule { return api.Rule{Left: left, Right: right} }

func move(rule int, path ...int) api.Move { return api.Move{Path: path, Rule: rule} }

func signature(t *testing.T) *sig.Sig {
	t.Helper()
	s := sig.New()
	for _, x := range symbols() {
		if _, e := s.Add(x); e != api.OK {
			t.Fatalf("Add %v: %v", x, e)
		}
	}
	return s
}

// answer is what a reader answers: what it read, laid out as text, or an error at a place, with what lex says of it.
type answer struct {
	read string
	code api.Errno
	at   int
	lex  api.Errno
}

func wrong(code api.Errno, at int) answer { return answer{code: code, at: at} }

func lexical(code api.Errno, at int) answer { return answer{code: api.ErrNoteLex, at: at, lex: code} }

func read(l any) answer { return answer{read: fmt.Sprint(l)} }

// kinds of texts, each with its reader.
const kinds = "declarations term rules path moves"

// ask is a reader's answer. An error must be a Fault, with nothing beside it, and come of lex's Fault at the same place or of nothing.
func ask(t *testing.T, s *sig.Sig, kind, text string) answer {
	t.Helper()
	var got answer
	var err error
	size := 0
	switch kind {
	case "declarations":
		l, e := notation.Symbols(text)
		got, err, size = read(l), e, len(l)
	case "term":
		l, e := notation.Term(s, text)
		got, err, size = read(l), e, len(l)
	case "rules":
		l, e := notation.Rules(s, text)
		got, err, size = read(l), e, len(l)
	case "path":
		l, e := notation.Path(text)
		got, err, size = read(l), e, len(l)
	case "moves":
		l, e := notation.Moves(text)
		got, err, size = read(l), e, len(l)
	default:
		t.Fatalf("no kind: %s", kind)
	}
	if err == nil {
		return got
	}
	f, ok := err.(*api.Fault)
	if !ok || f == nil || f.Code == api.OK || size != 0 {
		t.Fatalf("%s %.60q: %d read, %#v", kind, text, size, err)
	}
	if f.Code != api.ErrNoteLex {
		if f.Why != nil {
			t.Fatalf("%s %.60q: %v comes of something", kind, text, err)
		}
		return wrong(f.Code, f.At)
	}
	var why *api.Fault
	if !errors.As(f.Why, &why) || why == f || why.At != f.At || why.Why != nil {
		t.Fatalf("%s %.60q: %v does not come of lex's Fault", kind, text, err)
	}
	return lexical(why.Code, f.At)
}

func want(t *testing.T, s *sig.Sig, kind, text string, w answer) {
	t.Helper()
	if got := ask(t, s, kind, text); got != w {
		t.Errorf("%s %.200q: %.200v, not %.200v", kind, text, got, w)
	}
}

// letter is a token as one letter: n a Name, c the Names con and fun, X a Variable, 0 a Number, > an Arrow, $ the End, else its sign.
func letter(k api.Token) string {
	switch {
	case k.Kind == api.Name && (k.Text == "con" || k.Text == "fun"):
		return "c"
	case k.Kind == api.End:
		return "$"
	}
	return map[int]string{api.Name: "n", api.Variable: "X", api.Number: "0", api.Arrow: ">"}[k.Kind] + strings.Trim(k.Text, "abcdefghijklmnopqrstuvwxyzABCDEFGHIJKLMNOPQRSTUVWXYZ0123456789->")
}

// table is the tests' own reader of forms, where nothing is nested: by a state and a letter the next state; none, where the letter cannot stand.
func table(kind string) map[string]string {
	switch kind {
	case "declarations":
		return map[string]string{"c": "a", "$": "", "ac": "b", "an": "b", "b/": "d", "d0": "e", "e,": "a", "e;": "f", "e$": "", "fc": "a"}
	case "path":
		return map[string]string{"*": "q", "0": "d", "d.": "e", "e0": "d", "d$": "", "q$": ""}
	case "moves":
		return map[string]string{"*": "q", "0": "d", "$": "", "d.": "e", "e0": "d", "d:": "r", "q:": "r", "r0": "m", "m,": "p", "m$": "", "p*": "q", "p0": "d"}
	}
	return nil
}

// formed is the number of the first token that cannot stand, or -1.
func formed(kind, tokens string) int {
	if kind == "term" || kind == "rules" {
		return termsFormed(kind, tokens)
	}
	state := ""
	for i, c := range tokens {
		next, ok := table(kind)[state+string(c)]
		if !ok {
			return i
		}
		state = next
	}
	return -1
}

// termsFormed does it with a count of open brackets. A state: t where a term must begin, n behind a Name, a behind a whole term; side 0 is a left one.
func termsFormed(kind, tokens string) int {
	state, depth, side := "t", 0, 0
	for i, c := range tokens {
		ahead := state
		switch {
		case kind == "rules" && i == 0 && c == '$':
		case ahead == "t" && (c == 'n' || c == 'c'):
			state = "n"
		case ahead == "t" && c == 'X':
			state = "a"
		case ahead == "t":
			return i
		case c == '(' && ahead == "n":
			depth, state = depth+1, "t"
		case c == ',' && depth > 0:
			state = "t"
		case c == ')' && depth > 0:
			depth, state = depth-1, "a"
		case depth > 0:
			return i
		case c == '>' && kind == "rules" && side == 0:
			side, state = 1, "t"
		case c == ';' && kind == "rules" && side == 1:
			side, state = 0, "t"
		case c == '$' && (kind == "term" || side == 1):
		default:
			return i
		}
	}
	return -1
}

// model is what a reader must answer, told by the tests' own means from lex's tokens.
func model(t *testing.T, s *sig.Sig, kind, text string) answer {
	t.Helper()
	l, err := lex.Scan(text)
	if err != nil {
		f := err.(*api.Fault)
		return lexical(f.Code, f.At)
	}
	form := ""
	for _, k := range l {
		form += letter(k)
	}
	if len(form) != len(l) {
		t.Fatalf("%q: %q", text, form)
	}
	if i := formed(kind, form); i >= 0 {
		return wrong(api.ErrNoteForm, l[i].At)
	}
	l = l[:len(l)-1]
	switch kind {
	case "declarations":
		return modelSymbols(l)
	case "term":
		return modelTerm(s, l)
	case "rules":
		return modelRules(s, l)
	case "path":
		return read(modelPath(l))
	}
	return modelMoves(l)
}

// modelSymbols looks for the slashes: a name stands ahead of each one, a number behind it.
func modelSymbols(l []api.Token) answer {
	var out []api.Symbol
	defined := false
	for i, k := range l {
		if k.Kind == api.Name && l[i+1].Kind == api.Name {
			defined = k.Text == "fun"
		}
		if k.Kind != api.Slash {
			continue
		}
		if len(out) == 64 {
			return wrong(api.ErrNoteMany, l[i-1].At)
		}
		out = append(out, api.Symbol{Name: l[i-1].Text, Arity: number(l[i+1]), Defined: defined})
	}
	return read(out)
}

func number(k api.Token) int {
	n, err := strconv.Atoi(k.Text)
	if err != nil {
		panic(err)
	}
	return n
}

// arguments counts those of the first token: the commas between its brackets that stand in no other ones.
func arguments(l []api.Token) int {
	if len(l) < 2 || l[1].Kind != api.Open {
		return 0
	}
	depth, count := 0, 1
	for _, k := range l[1:] {
		switch k.Kind {
		case api.Open:
			depth++
		case api.Close:
			depth--
		case api.Comma:
			if depth == 1 {
				count++
			}
		}
		if depth == 0 {
			break
		}
	}
	return count
}

// names tells of the first wrong Name.
func names(s *sig.Sig, l []api.Token) (answer, bool) {
	for i, k := range l {
		if k.Kind != api.Name {
			continue
		}
		n, e := s.Find(k.Text)
		x, _ := s.At(n)
		if e != api.OK {
			return wrong(api.ErrNoteSymbol, k.At), true
		}
		if arguments(l[i:]) != x.Arity {
			return wrong(api.ErrNoteArity, k.At), true
		}
	}
	return answer{}, false
}

// words are the symbols and variables.
func words(l []api.Token) []api.Token {
	var out []api.Token
	for _, k := range l {
		if k.Kind == api.Name || k.Kind == api.Variable {
			out = append(out, k)
		}
	}
	return out
}

// sides are terms whose names are right, with their variables numbered together.
func sides(s *sig.Sig, lists ...[]api.Token) ([]api.Term, answer) {
	for _, l := range lists {
		if len(words(l)) > 2000 {
			return nil, wrong(api.ErrNoteLong, l[0].At)
		}
	}
	var met []string
	var out []api.Term
	for _, l := range lists {
		t := api.Term{}
		for _, k := range words(l) {
			n, _ := s.Find(k.Text)
			if k.Kind == api.Variable {
				for n = 0; n < len(met) && met[n] != k.Text; n++ {
				}
				if n == len(met) {
					met = append(met, k.Text)
				}
				if n == 99 {
					return nil, wrong(api.ErrNoteVariables, k.At)
				}
				n = -1 - n
			}
			t = append(t, n)
		}
		out = append(out, t)
	}
	return out, answer{}
}

func modelTerm(s *sig.Sig, l []api.Token) answer {
	if w, bad := names(s, l); bad {
		return w
	}
	out, w := sides(s, l)
	if w.code != api.OK {
		return w
	}
	return read(out[0])
}

// parted is a list cut at all tokens of a kind.
func parted(l []api.Token, kind int) [][]api.Token {
	if len(l) == 0 {
		return nil
	}
	out := [][]api.Token{nil}
	for _, k := range l {
		if k.Kind == kind {
			out = append(out, nil)
		} else {
			out[len(out)-1] = append(out[len(out)-1], k)
		}
	}
	return out
}

func modelRules(s *sig.Sig, l []api.Token) answer {
	parts := parted(l, api.Semi)
	if len(parts) > 100 {
		return wrong(api.ErrNoteMany, parts[100][0].At)
	}
	if w, bad := names(s, l); bad {
		return w
	}
	var out []api.Rule
	for _, p := range parts {
		two := parted(p, api.Arrow)
		x, w := sides(s, two[0], two[1])
		if w.code != api.OK {
			return w
		}
		out = append(out, api.Rule{Left: x[0], Right: x[1]})
	}
	return read(out)
}

func modelPath(l []api.Token) []int {
	var out []int
	for _, k := range l {
		if k.Kind == api.Number {
			out = append(out, number(k))
		}
	}
	return out
}

func modelMoves(l []api.Token) answer {
	parts := parted(l, api.Comma)
	if len(parts) > 1000 {
		return wrong(api.ErrNoteMany, parts[1000][0].At)
	}
	var out []api.Move
	for _, p := range parts {
		two := parted(p, api.Colon)
		out = append(out, api.Move{Path: modelPath(two[0]), Rule: number(two[1][0])})
	}
	return read(out)
}

// maker makes texts that a seed's numbers choose, as lists of tokens' texts.
type maker struct {
	*rand.Rand
}

func (m maker) one(l ...string) string { return l[m.Intn(len(l))] }

// row is some things with a sign between each two.
func (m maker) row(least, most int, sign string, one func() []string) []string {
	var l []string
	for i := range least + m.Intn(most-least+1) {
		if i > 0 {
			l = append(l, sign)
		}
		l = append(l, one()...)
	}
	return l
}

func (m maker) text(kind string) []string {
	switch kind {
	case "declarations":
		return m.row(0, 4, ";", func() []string {
			return append([]string{m.one("con", "fun")}, m.row(1, 4, ",", func() []string {
				return []string{m.one("a", "con", "fun", "z", "abcdefghijkl"), "/", m.one("0", "1", "6", "7", "999999999")}
			})...)
		})
	case "term":
		return m.term(4)
	case "rules":
		return m.row(0, 4, ";", func() []string { return append(append(m.term(3), "->"), m.term(3)...) })
	case "path":
		return m.path()
	}
	return m.row(0, 5, ",", func() []string { return append(m.path(), ":", m.one("0", "3", "100")) })
}

func (m maker) path() []string {
	if m.Intn(3) == 0 {
		return []string{"*"}
	}
	return m.row(1, 4, ".", func() []string { return []string{m.one("0", "1", "5", "12", "999999999")} })
}

// term is one of the signature, but for some names and numbers of arguments.
func (m maker) term(depth int) []string {
	if depth == 0 || m.Intn(5) == 0 {
		return []string{m.one("X", "Y", "X1", "X01", "Xx", "z", "con", "abcdefgh")}
	}
	x := symbols()[m.Intn(9)]
	count := x.Arity
	switch m.Intn(40) {
	case 0:
		count++
	case 1:
		count = max(count-1, 0)
	case 2:
		x.Name = m.one("q", "zz", "abcdefghijk")
	}
	if count == 0 {
		return []string{x.Name}
	}
	l := append([]string{x.Name, "("}, m.row(count, count, ",", func() []string { return m.term(depth - 1) })...)
	return append(l, ")")
}

// bent is a text's tokens with something changed, most often so that they can't stand.
func (m maker) bent(l []string) []string {
	l = append([]string(nil), l...)
	at := m.Intn(len(l) + 1)
	other := m.one("con", "fun", "z", "s", "q", "X", "0", "7", "(", ")", ",", ";", "->", "/", ".", ":", "*", "_", "00", "abcdefghijklm")
	switch {
	case m.Intn(3) == 0:
		return append(l[:at], append([]string{other}, l[at:]...)...)
	case at == len(l):
		return l
	case m.Intn(3) == 0:
		return append(l[:at], l[at+1:]...)
	case m.Intn(2) == 0:
		return l[:at]
	}
	l[at] = other
	return l
}

// laid is the tokens with blanks and comments between: always such, where two of them would be one, else sometimes.
func (m maker) laid(l []string) string {
	between := func() string {
		return m.one(" ", "\n", "\t", "\r\n", "% ;),\xff\n", "  ", " %\n%%(\n\t")
	}
	text := ""
	for i, x := range l {
		if m.Intn(4) == 0 || i > 0 && glued(l[i-1], x) {
			text += between()
		}
		text += x
	}
	if m.Intn(4) == 0 {
		text += m.one(" ", "\n", "% to the end", "%)\n")
	}
	return text
}

// glued tells whether two tokens would be one without a blank.
func glued(a, b string) bool {
	l, err := lex.Scan(a + b)
	return err == nil && len(l) < 3 || err != nil
}
