package notation_test

import (
	"errors"
	"fmt"
	"math/rand"
	"slices"
	"strconv"
	"strings"
	"testing"
	"unsafe"

	"ropewalk/api"
	"ropewalk/lex"
	"ropewalk/notation"
	"ropewalk/sig"
)

// P4.1 to P4.5: the chapter's examples.
func TestExamplesRead(t *testing.T) {
	s := signature(t)
	want(t, s, "declarations", "con z/0, s/1; fun add/2", read([]api.Symbol{con("z", 0), con("s", 1), fun("add", 2)}))
	want(t, s, "declarations", "con", wrong(api.ErrNoteForm, 3))
	want(t, s, "declarations", "z/0", wrong(api.ErrNoteForm, 0))
	want(t, s, "declarations", "con z/0;", wrong(api.ErrNoteForm, 8))
	want(t, s, "declarations", "con z/0,,", wrong(api.ErrNoteForm, 8))
	want(t, s, "declarations", "", read([]api.Symbol{}))
	want(t, s, "term", "add(s(Y), X)", read(api.Term{2, 1, -1, -2}))
	want(t, s, "term", "z", read(api.Term{0}))
	want(t, s, "term", "add(q, s)", wrong(api.ErrNoteSymbol, 4))
	want(t, s, "term", "add(z)", wrong(api.ErrNoteArity, 0))
	want(t, s, "term", "z()", wrong(api.ErrNoteForm, 2))
	want(t, s, "term", "s(z z)", wrong(api.ErrNoteForm, 4))
	want(t, s, "term", "", wrong(api.ErrNoteForm, 0))
	want(t, s, "term", "s(#", lexical(api.ErrLexByte, 2))
	want(t, s, "rules", "add(z,X) -> X; add(s(X),Y) -> s(add(X,Y))", read([]api.Rule{
		{Left: api.Term{2, 0, -1}, Right: api.Term{-1}},
		{Left: api.Term{2, 1, -1, -2}, Right: api.Term{1, 2, -1, -2}},
	}))
	want(t, s, "path", "*", read([]int{}))
	want(t, s, "path", "0.12", read([]int{0, 12}))
	want(t, s, "path", "0.", wrong(api.ErrNoteForm, 2))
	want(t, s, "moves", "*:3, 1.0:0", read([]api.Move{move(3), move(0, 1, 0)}))
}

// P4.1: what lex refuses, whatever else is wrong with the text, ahead of the wrong byte and behind it.
func TestWhatLexRefuses(t *testing.T) {
	s := signature(t)
	bad := map[string]api.Errno{"_": api.ErrLexByte, "-": api.ErrLexByte, "\xff": api.ErrLexByte, "abcdefghijklm": api.ErrLexName, "ABCDEFGHIJKLM": api.ErrLexName, "00": api.ErrLexNumber, "1000000000": api.ErrLexNumber}
	for _, kind := range strings.Fields(kinds) {
		for text, code := range bad {
			want(t, s, kind, text, lexical(code, 0))
			want(t, s, kind, " ), "+text, lexical(code, 4))
			want(t, s, kind, "con a/0; "+text, lexical(code, 9))
			want(t, s, kind, "q(z) "+text+" )", lexical(code, 5))
		}
		want(t, s, kind, strings.Repeat(" ", 20001), lexical(api.ErrLexLong, 0))
		want(t, s, kind, strings.Repeat(")", 20001), lexical(api.ErrLexLong, 0))
		want(t, s, kind, ")"+strings.Repeat(" ", 19999), wrong(api.ErrNoteForm, 0))
	}
	want(t, s, "path", strings.Repeat(" ", 19999)+"7", read([]int{7}))
	want(t, s, "term", strings.Repeat(" ", 19999)+"z", read(api.Term{0}))
}

// row is all rows of at most so many letters, of things with a sign between each two.
func row(most int, sign string, things []string) []string {
	var l []string
	for _, x := range things {
		if len(x) > most {
			continue
		}
		l = append(l, x)
		for _, y := range row(most-len(x)-1, sign, things) {
			l = append(l, x+sign+y)
		}
	}
	return l
}

// terms is all terms of at most so many letters.
func terms(most int) []string {
	l := []string{"X", "n", "c"}
	if most > 3 {
		for _, x := range row(most-3, ",", terms(most-3)) {
			l = append(l, "n("+x+")", "c("+x+")")
		}
	}
	return l
}

// sentences is all texts of a kind of at most so many letters, as the grammar makes them.
func sentences(kind string, most int) []string {
	paths := append(row(most, ".", []string{"0"}), "*")
	switch kind {
	case "declarations":
		var items []string
		for _, x := range row(most-1, ",", []string{"n/0", "c/0"}) {
			items = append(items, "c"+x)
		}
		return append(row(most, ";", items), "")
	case "term":
		return terms(most)
	case "rules":
		var two []string
		for _, x := range terms(most - 2) {
			for _, y := range terms(most - 1 - len(x)) {
				two = append(two, x+">"+y)
			}
		}
		return append(row(most, ";", two), "")
	case "path":
		return paths
	}
	var l []string
	for _, x := range paths {
		l = append(l, x+":0")
	}
	return append(row(most, ",", l), "")
}

// beginnings is all that sentences begin with, their End too.
func beginnings(l []string) map[string]bool {
	out := map[string]bool{}
	for _, x := range l {
		x += "$"
		for i := range len(x) + 1 {
			out[x[:i]] = true
		}
	}
	return out
}

// spelled is a text of these letters, and where each one of them stands.
func spelled(letters string) (string, []int) {
	text, places := "", []int{}
	for _, c := range letters {
		text += " "
		places = append(places, len(text))
		text += map[rune]string{'n': "z", 'c': "fun", '>': "->", '$': ""}[c]
		if strings.ContainsRune("X0(),;/.:*", c) {
			text += string(c)
		}
	}
	return text, places
}

// P4.1: of all short rows of tokens, the first one with which no text of the kind goes on: told by all texts that the grammar makes.
func TestFirstTokenThatCannotStand(t *testing.T) {
	s := signature(t)
	for _, c := range []struct {
		kind, letters string
		size, most    int
	}{
		{"declarations", "cnX0(),;>/.:*", 3, 7}, {"term", "cnX0(),;>/.:*", 3, 6}, {"rules", "cnX0(),;>/.:*", 3, 8}, {"path", "cnX0(),;>/.:*", 3, 5}, {"moves", "cnX0(),;>/.:*", 3, 7},
		{"declarations", "cn/0,;", 6, 10}, {"term", "nX(),", 6, 10}, {"rules", "nX(),;>", 5, 10}, {"path", "0.*:", 6, 8}, {"moves", "0.*:,", 6, 10},
	} {
		may := beginnings(sentences(c.kind, c.most))
		last := []string{""}
		for range c.size {
			var longer []string
			for _, x := range last {
				for _, y := range c.letters {
					longer = append(longer, x+string(y))
				}
			}
			last = longer
			for _, x := range last {
				mustForm(t, s, c.kind, x+"$", may)
			}
		}
		mustForm(t, s, c.kind, "$", may)
	}
}

// mustForm: the reader, and the model, give these letters up where the beginnings do.
func mustForm(t *testing.T, s *sig.Sig, kind, letters string, may map[string]bool) {
	t.Helper()
	first := -1
	for i := range letters {
		if !may[letters[:i+1]] {
			first = i
			break
		}
	}
	if i := formed(kind, letters); i != first {
		t.Fatalf("the model of %s, %s: %d, not %d", kind, letters, i, first)
	}
	text, places := spelled(letters)
	got := ask(t, s, kind, text)
	if first >= 0 && got != wrong(api.ErrNoteForm, places[first]) || first < 0 && (got.code == api.ErrNoteForm || got.code == api.ErrNoteLex) {
		t.Fatalf("%s %q: %v", kind, text, got)
	}
}

// P4.1 to P4.5, P4.10: against the model: texts of all kinds, whole and bent, with blanks and comments; and each reader at texts of other kinds.
func TestReadersAgainstModel(t *testing.T) {
	s := signature(t)
	m := maker{rand.New(rand.NewSource(4))}
	met := map[api.Errno]int{}
	for range 2000 {
		for _, kind := range strings.Fields(kinds) {
			l := m.text(kind)
			for m.Intn(2) == 0 {
				l = m.bent(l)
			}
			text := m.laid(l)
			w := model(t, s, kind, text)
			want(t, s, kind, text, w)
			met[w.code]++
			other := m.one(strings.Fields(kinds)...)
			want(t, s, other, text, model(t, s, other, text))
		}
	}
	for _, code := range []api.Errno{api.OK, api.ErrNoteLex, api.ErrNoteForm, api.ErrNoteSymbol, api.ErrNoteArity} {
		if met[code] < 100 {
			t.Errorf("%d is met %d times alone", int(code), met[code])
		}
	}
}

// declared is so many declarations, f0/0, f1/1 and so on, every tenth one the first of an item.
func declared(count int) string {
	text := ""
	for i := range count {
		switch {
		case i%20 == 0:
			text += ";con "
		case i%10 == 0:
			text += ";fun "
		default:
			text += ", "
		}
		text += "f" + strconv.Itoa(i) + "/" + strconv.Itoa(i)
	}
	return strings.TrimPrefix(text, ";")
}

// P4.2: 64 declarations and 65, the last one in a row, and the first of an item.
func TestSymbolsMany(t *testing.T) {
	s := signature(t)
	var l []api.Symbol
	for i := range 64 {
		l = append(l, api.Symbol{Name: "f" + strconv.Itoa(i), Arity: i, Defined: i/10%2 == 1})
	}
	want(t, s, "declarations", declared(63), read(l[:63]))
	want(t, s, "declarations", declared(64), read(l))
	at := strings.Index(declared(65), "f64")
	want(t, s, "declarations", declared(65), wrong(api.ErrNoteMany, at))
	want(t, s, "declarations", declared(300), wrong(api.ErrNoteMany, at))
	want(t, s, "declarations", declared(64)+"; fun % here\n last/0; con b/1", wrong(api.ErrNoteMany, len(declared(64))+14))
	want(t, s, "declarations", declared(65)+",", wrong(api.ErrNoteForm, len(declared(65))+1))
	want(t, s, "declarations", declared(65)+" #", lexical(api.ErrLexByte, len(declared(65))+1))
}

// P4.2: arities of 0, of 999999999 and one beyond; whether a signature takes it is not looked at.
func TestSymbolsOfAllSorts(t *testing.T) {
	s := signature(t)
	want(t, s, "declarations", "con a/0, b/6,c/7 , d/999999999", read([]api.Symbol{con("a", 0), con("b", 6), con("c", 7), con("d", 999999999)}))
	want(t, s, "declarations", "con d/1000000000", lexical(api.ErrLexNumber, 6))
	want(t, s, "declarations", "con d/01", lexical(api.ErrLexNumber, 6))
	want(t, s, "declarations", "con d/-1", lexical(api.ErrLexByte, 6))
	want(t, s, "declarations", "fun a/1, a/1; con a/2; fun a/1", read([]api.Symbol{fun("a", 1), fun("a", 1), con("a", 2), fun("a", 1)}))
	want(t, s, "declarations", "con con/0, fun/1; fun con/2, fun/3", read([]api.Symbol{con("con", 0), con("fun", 1), fun("con", 2), fun("fun", 3)}))
	want(t, s, "declarations", "con z/0; fun/1", wrong(api.ErrNoteForm, 12))
	want(t, s, "declarations", "con z/0, fun add/2", wrong(api.ErrNoteForm, 13))
	want(t, s, "declarations", "cons z/0", wrong(api.ErrNoteForm, 0))
	want(t, s, "declarations", "con Z/0", wrong(api.ErrNoteForm, 4))
	want(t, s, "declarations", "Con z/0", wrong(api.ErrNoteForm, 0))
	want(t, s, "declarations", "con z/z", wrong(api.ErrNoteForm, 6))
	want(t, s, "declarations", "con z", wrong(api.ErrNoteForm, 5))
	want(t, s, "declarations", "con z/0; fun % \n", wrong(api.ErrNoteForm, 16))
	want(t, s, "declarations", ";", wrong(api.ErrNoteForm, 0))
	want(t, s, "declarations", " % nothing\n\t", read([]api.Symbol{}))
}

// chain is s(s(...last)) of so many words.
func chain(size int, last string) string {
	return strings.Repeat("s(", size-1) + last + strings.Repeat(")", size-1)
}

// list is add(first, add(second, ... z)).
func list(l []string) string {
	text := ""
	for _, x := range l {
		text += "add(" + x + ","
	}
	return text + "z" + strings.Repeat(")", len(l))
}

// variables are so many, of a letter and numbers from 1 on.
func variables(letter string, count int) []string {
	var l []string
	for i := range count {
		l = append(l, letter+strconv.Itoa(i+1))
	}
	return l
}

// P4.3: a term of 2000 words, and of 2001; no text is too deep.
func TestTermLong(t *testing.T) {
	s := signature(t)
	full := make(api.Term, 2000)
	for i := range 1999 {
		full[i] = 1
	}
	want(t, s, "term", chain(2000, "z"), read(full))
	full[1999] = -1
	want(t, s, "term", " "+chain(2000, "Last"), read(full))
	want(t, s, "term", chain(2001, "z"), wrong(api.ErrNoteLong, 0))
	want(t, s, "term", " % \n"+chain(2001, "X"), wrong(api.ErrNoteLong, 4))
	wide := list(slices.Repeat([]string{"z"}, 1000))
	want(t, s, "term", wide, wrong(api.ErrNoteLong, 0))
	want(t, s, "term", "s("+list(slices.Repeat([]string{"z"}, 999))+")", model(t, s, "term", "s("+list(slices.Repeat([]string{"z"}, 999))+")"))
	if w := ask(t, s, "term", "s("+list(slices.Repeat([]string{"z"}, 999))+")"); w.code != api.OK {
		t.Errorf("2000 words: %v", w)
	}
	want(t, s, "term", chain(6667, "z"), wrong(api.ErrNoteLong, 0))
	want(t, s, "term", strings.Repeat("s(", 10000), wrong(api.ErrNoteForm, 20000))
	want(t, s, "term", strings.Repeat("(", 20000), wrong(api.ErrNoteForm, 0))
	want(t, s, "term", "s("+strings.Repeat("z,", 9998)+"z)", wrong(api.ErrNoteArity, 0))
}

// P4.3: 99 variables and 100; how one is written is which it is.
func TestTermVariables(t *testing.T) {
	s := signature(t)
	var w api.Term
	for i := range 99 {
		w = append(w, 2, -1-i)
	}
	w = append(w, 0)
	want(t, s, "term", list(variables("X", 99)), read(w))
	text := list(variables("X", 100))
	want(t, s, "term", text, wrong(api.ErrNoteVariables, strings.Index(text, "X100")))
	text = list(append(variables("X", 99), "X1", "X99", "X50", "Y", "Z"))
	want(t, s, "term", text, wrong(api.ErrNoteVariables, strings.Index(text, "Y")))
	if got := ask(t, s, "term", list(append(variables("X", 99), variables("X", 99)...))); got.code != api.OK {
		t.Errorf("99 variables, each twice: %v", got)
	}
	want(t, s, "term", "six(X7,X3,X7,X,x,X3)", wrong(api.ErrNoteSymbol, 15))
	want(t, s, "term", "six(X7,X3,X7,X,Xx,X3)", read(api.Term{6, -1, -2, -1, -3, -4, -2}))
	want(t, s, "term", "four(X1,X01,X1,X001)", read(api.Term{4, -1, -2, -1, -3}))
	want(t, s, "term", "Zx9", read(api.Term{-1}))
}

// P4.3: the first wrong Name from the left, whichever is wrong with it.
func TestTermNames(t *testing.T) {
	s := signature(t)
	for text, w := range map[string]answer{
		"q":                wrong(api.ErrNoteSymbol, 0),
		" q(z)":            wrong(api.ErrNoteSymbol, 1),
		"q(q(q))":          wrong(api.ErrNoteSymbol, 0),
		"s":                wrong(api.ErrNoteArity, 0),
		"z(X)":             wrong(api.ErrNoteArity, 0),
		"s(z,z)":           wrong(api.ErrNoteArity, 0),
		"add(q)":           wrong(api.ErrNoteArity, 0),
		"add(q,s)":         wrong(api.ErrNoteSymbol, 4),
		"add(s,q)":         wrong(api.ErrNoteArity, 4),
		"add(s(q(s)),s)":   wrong(api.ErrNoteSymbol, 6),
		"add(X,add(X,z))":  read(api.Term{2, -1, 2, -1, 0}),
		"six(z,z,z,z,z)":   wrong(api.ErrNoteArity, 0),
		"six(z,z,z,z,z,z)": read(api.Term{6, 0, 0, 0, 0, 0, 0}),
		"add(s(z,z),q)":    wrong(api.ErrNoteArity, 4),
		"con":              read(api.Term{7}),
		"fun(con)":         read(api.Term{8, 7}),
		"zz":               wrong(api.ErrNoteSymbol, 0),
		"X(z)":             wrong(api.ErrNoteForm, 1),
		"z->z":             wrong(api.ErrNoteForm, 1),
		"z;":               wrong(api.ErrNoteForm, 1),
		"z,z":              wrong(api.ErrNoteForm, 1),
		"z)":               wrong(api.ErrNoteForm, 1),
		"3":                wrong(api.ErrNoteForm, 0),
		"s(":               wrong(api.ErrNoteForm, 2),
		"s(z":              wrong(api.ErrNoteForm, 3),
		"s(z,":             wrong(api.ErrNoteForm, 4),
		"s(,z)":            wrong(api.ErrNoteForm, 2),
		"s(z;z)":           wrong(api.ErrNoteForm, 3),
	} {
		want(t, s, "term", text, w)
	}
	none := sig.New()
	want(t, none, "term", "X", read(api.Term{-1}))
	want(t, none, "term", "z", wrong(api.ErrNoteSymbol, 0))
	none.Add(api.Symbol{Name: "z", Arity: 1})
	want(t, none, "term", "z(X)", read(api.Term{0, -1}))
	want(t, none, "term", "z", wrong(api.ErrNoteArity, 0))
}

// P4.3, R2: of several errors the one that the promise names first.
func TestTermErrorsInOrder(t *testing.T) {
	s := signature(t)
	many := list(variables("X", 100))
	long := "add(" + chain(2001, "z") + "," + many + ")"
	for _, c := range []struct {
		s    *sig.Sig
		text string
		w    answer
	}{
		{nil, "#", wrong(api.ErrArg, 0)},
		{nil, "s(", wrong(api.ErrArg, 0)},
		{nil, "", wrong(api.ErrArg, 0)},
		{nil, "X", wrong(api.ErrArg, 0)},
		{s, "q(" + long + ")) #", lexical(api.ErrLexByte, len(long)+5)},
		{s, "q(" + long + "))", wrong(api.ErrNoteForm, len(long)+3)},
		{s, "add(" + long + ",q)", wrong(api.ErrNoteSymbol, len(long)+5)},
		{s, "add(" + long + ",s)", wrong(api.ErrNoteArity, len(long)+5)},
		{s, " " + long, wrong(api.ErrNoteLong, 1)},
		{s, "add(" + many + ",q)", wrong(api.ErrNoteSymbol, len(many)+5)},
		{s, " " + many, wrong(api.ErrNoteVariables, 1+strings.Index(many, "X100"))},
	} {
		want(t, c.s, "term", c.text, c.w)
	}
}

// ruled is so many rules, add(z,X) -> X, with a sign between each two.
func ruled(count int) string {
	return strings.TrimSuffix(strings.Repeat("add(z,X) -> X; ", count), "; ")
}

// P4.4: no rules, 100 of them, and 101.
func TestRulesMany(t *testing.T) {
	s := signature(t)
	one := api.Rule{Left: api.Term{2, 0, -1}, Right: api.Term{-1}}
	want(t, s, "rules", "", read([]api.Rule{}))
	want(t, s, "rules", "% none", read([]api.Rule{}))
	want(t, s, "rules", ruled(1), read([]api.Rule{one}))
	want(t, s, "rules", ruled(100), read(slices.Repeat([]api.Rule{one}, 100)))
	want(t, s, "rules", ruled(101), wrong(api.ErrNoteMany, 1500))
	want(t, s, "rules", ruled(500), wrong(api.ErrNoteMany, 1500))
	want(t, s, "rules", ruled(100)+"; % and\n X -> q", wrong(api.ErrNoteMany, 1507))
	want(t, s, "rules", ruled(101)+";", wrong(api.ErrNoteForm, len(ruled(101))+1))
}

// P4.4: what is no rule.
func TestRulesForm(t *testing.T) {
	s := signature(t)
	for text, at := range map[string]int{
		"z": 1, "z ->": 4, "-> z": 0, "z -> z;": 7, "z -> z; z": 9, "z -> z -> z": 7, "z -> z, z -> z": 6, ";": 0, "z;": 1,
		"s(z -> z)": 4, "add(z,X) -> add(X": 17, "z -> z)": 6, "z -> s(X;": 8, "* -> z": 0, "z -> 1": 5, "X(z) -> z": 1, "z -> z;; z -> z": 7,
	} {
		want(t, s, "rules", text, wrong(api.ErrNoteForm, at))
	}
}

// P4.4: each rule's variables by themselves, the left side's first; whether they are rules that anybody accepts is not looked at.
func TestRulesVariables(t *testing.T) {
	s := signature(t)
	want(t, s, "rules", "add(Y,X) -> add(X,Y); add(X,Y) -> add(Y,add(Z,X)); X -> Y", read([]api.Rule{
		{Left: api.Term{2, -1, -2}, Right: api.Term{2, -2, -1}},
		{Left: api.Term{2, -1, -2}, Right: api.Term{2, -2, 2, -3, -1}},
		{Left: api.Term{-1}, Right: api.Term{-2}},
	}))
	left, right := list(variables("X", 60)), list(variables("Y", 39))
	if got := ask(t, s, "rules", left+"->"+right+";"+right+"->"+left); got.code != api.OK {
		t.Errorf("99 variables of both sides, twice: %v", got)
	}
	right = list(variables("Y", 40))
	text := left + "->" + right
	want(t, s, "rules", text, wrong(api.ErrNoteVariables, strings.Index(text, "Y40")))
	text = "z->z;" + list(variables("X", 100)) + "->z"
	want(t, s, "rules", text, wrong(api.ErrNoteVariables, strings.Index(text, "X100")))
	text = left + "->" + left + ";" + list(variables("Y", 99)) + "->" + list(variables("Y", 99)) + ";" + list(variables("Z", 99)) + "-> X"
	want(t, s, "rules", text, wrong(api.ErrNoteVariables, strings.LastIndex(text, "X")))
}

// P4.4: sides of 2000 words, and of 2001.
func TestRulesLong(t *testing.T) {
	s := signature(t)
	full, long := chain(2000, "z"), chain(2001, "z")
	if got := ask(t, s, "rules", full+"->"+full); got.code != api.OK {
		t.Errorf("two sides of 2000: %v", got)
	}
	want(t, s, "rules", " "+long+"->z", wrong(api.ErrNoteLong, 1))
	want(t, s, "rules", "z-> "+long, wrong(api.ErrNoteLong, 4))
	want(t, s, "rules", long+"->"+long, wrong(api.ErrNoteLong, 0))
	want(t, s, "rules", "z->z;z->"+long+";"+long+"->z", wrong(api.ErrNoteLong, 8))
}

// P4.4, R2: of several errors the one that the promise names first; lengths and variables rule by rule.
func TestRulesErrorsInOrder(t *testing.T) {
	s := signature(t)
	long, many := chain(2001, "z"), list(variables("X", 100))
	last := strings.Index(many, "X100")
	for _, c := range []struct {
		s    *sig.Sig
		text string
		w    answer
	}{
		{nil, "#", wrong(api.ErrArg, 0)},
		{nil, "z ->", wrong(api.ErrArg, 0)},
		{nil, "", wrong(api.ErrArg, 0)},
		{s, ruled(101) + "; q -> #", lexical(api.ErrLexByte, len(ruled(101))+7)},
		{s, "q -> z; " + ruled(101) + "; q", wrong(api.ErrNoteForm, 8+len(ruled(101))+3)},
		{s, "q -> " + long + "; " + ruled(100), wrong(api.ErrNoteMany, 7+len(long)+15*99)},
		{s, long + "->" + many + ";z -> s", wrong(api.ErrNoteArity, len(long)+len(many)+8)},
		{s, long + "->" + many + ";q -> s", wrong(api.ErrNoteSymbol, len(long)+len(many)+3)},
		{s, "add(X) -> q", wrong(api.ErrNoteArity, 0)},
		{s, "z -> s; q -> z", wrong(api.ErrNoteArity, 5)},
		{s, many + "->" + long, wrong(api.ErrNoteLong, len(many)+2)},
		{s, long + "->" + many, wrong(api.ErrNoteLong, 0)},
		{s, many + "->z;" + long + "->z", wrong(api.ErrNoteVariables, last)},
		{s, "z->" + many + ";" + long + "->" + long, wrong(api.ErrNoteVariables, 3+last)},
		{s, "z->" + long + ";" + many + "->z", wrong(api.ErrNoteLong, 3)},
	} {
		want(t, c.s, "rules", c.text, c.w)
	}
}

// P4.5: paths.
func TestPath(t *testing.T) {
	s := signature(t)
	for text, w := range map[string]answer{
		"*":                    read([]int{}),
		" % root\n*\t":         read([]int{}),
		"0":                    read([]int{0}),
		"999999999":            read([]int{999999999}),
		"5 . 0 .%\n 999999999": read([]int{5, 0, 999999999}),
		"1000000000":           lexical(api.ErrLexNumber, 0),
		"0.01":                 lexical(api.ErrLexNumber, 2),
		"-1":                   lexical(api.ErrLexByte, 0),
		"":                     wrong(api.ErrNoteForm, 0),
		"% none":               wrong(api.ErrNoteForm, 6),
		".":                    wrong(api.ErrNoteForm, 0),
		"**":                   wrong(api.ErrNoteForm, 1),
		"*.0":                  wrong(api.ErrNoteForm, 1),
		"0.*":                  wrong(api.ErrNoteForm, 2),
		"0 1":                  wrong(api.ErrNoteForm, 2),
		"0..1":                 wrong(api.ErrNoteForm, 2),
		"0,1":                  wrong(api.ErrNoteForm, 1),
		"0:1":                  wrong(api.ErrNoteForm, 1),
		"X":                    wrong(api.ErrNoteForm, 0),
		"a":                    wrong(api.ErrNoteForm, 0),
	} {
		want(t, s, "path", text, w)
	}
	want(t, s, "path", strings.TrimSuffix(strings.Repeat("7.", 10000), "."), read(slices.Repeat([]int{7}, 10000)))
}

// P4.5: moves: none, 1000 and 1001.
func TestMoves(t *testing.T) {
	s := signature(t)
	for text, w := range map[string]answer{
		"":                       read([]api.Move{}),
		" %":                     read([]api.Move{}),
		"*:0":                    read([]api.Move{{}}),
		"0:999999999":            read([]api.Move{move(999999999, 0)}),
		"1.2.3:4,*:5 % x\n,6 :7": read([]api.Move{move(4, 1, 2, 3), move(5), move(7, 6)}),
		"*:1000000000":           lexical(api.ErrLexNumber, 2),
		"*":                      wrong(api.ErrNoteForm, 1),
		"*:":                     wrong(api.ErrNoteForm, 2),
		"*:*":                    wrong(api.ErrNoteForm, 2),
		":0":                     wrong(api.ErrNoteForm, 0),
		"0.:0":                   wrong(api.ErrNoteForm, 2),
		"*.0:0":                  wrong(api.ErrNoteForm, 1),
		"*:0,":                   wrong(api.ErrNoteForm, 4),
		"*:0;*:0":                wrong(api.ErrNoteForm, 3),
		"*:0.1":                  wrong(api.ErrNoteForm, 3),
		",":                      wrong(api.ErrNoteForm, 0),
		"*:0 *:0":                wrong(api.ErrNoteForm, 4),
		"*:X":                    wrong(api.ErrNoteForm, 2),
	} {
		want(t, s, "moves", text, w)
	}
	moved := func(count int) string {
		return strings.TrimSuffix(strings.Repeat("0.1:2, ", count), ", ")
	}
	one := move(2, 0, 1)
	want(t, s, "moves", moved(1000), read(slices.Repeat([]api.Move{one}, 1000)))
	want(t, s, "moves", moved(1001), wrong(api.ErrNoteMany, 7000))
	want(t, s, "moves", moved(2000), wrong(api.ErrNoteMany, 7000))
	want(t, s, "moves", moved(1000)+",% x\n *:0", wrong(api.ErrNoteMany, 7004))
	want(t, s, "moves", moved(1001)+",", wrong(api.ErrNoteForm, 7006))
	want(t, s, "moves", moved(1001)+"#", lexical(api.ErrLexByte, 7005))
}

// P4.10: blanks and comments between tokens change nothing but places.
func TestBlanksSayNothing(t *testing.T) {
	s := signature(t)
	m := maker{rand.New(rand.NewSource(5))}
	for range 800 {
		for _, kind := range strings.Fields(kinds) {
			l := m.text(kind)
			if m.Intn(3) == 0 {
				l = m.bent(l)
			}
			x, y := m.laid(l), m.laid(l)
			a, b := ask(t, s, kind, x), ask(t, s, kind, y)
			if a.code != api.OK {
				a.at, b.at = token(x, a.at), token(y, b.at)
			}
			if a != b {
				t.Fatalf("%s %q: %v; %q: %v", kind, x, a, y, b)
			}
		}
	}
}

// token is how many tokens a text has ahead of a place.
func token(text string, at int) int {
	l, _ := lex.Scan(text[:at])
	return len(l)
}

// R4: what was read is new memory, spare room too, and no two lists of it share any.
func TestReadIsNew(t *testing.T) {
	s := signature(t)
	const text = "add(X,s(Y)) -> add(Y,X); add(z,X) -> s(X); z -> z"
	ahead, _ := notation.Rules(s, text)
	l, _ := notation.Rules(s, text)
	lists := []*api.Term{}
	for i := range l {
		lists = append(lists, &l[i].Left, &l[i].Right)
	}
	for i, x := range lists {
		for k := range (*x)[:cap(*x)] {
			(*x)[:cap(*x)][k] = 100 + i
		}
	}
	for i, x := range lists {
		for _, n := range *x {
			if n != 100+i {
				t.Errorf("the list %d shares memory: %v", i, *x)
			}
		}
	}
	want(t, s, "rules", text, read(ahead))
	m, _ := notation.Moves("0.1:2, 3:4, 5.6.7:8")
	for i, x := range m {
		path := x.Path[:cap(x.Path)]
		for k := range path {
			path[k] = 100 + i
		}
	}
	if fmt.Sprint(m) != "[{[100 100] 2} {[101] 4} {[102 102 102] 8}]" {
		t.Errorf("moves share memory: %v", m)
	}
	x, _ := notation.Symbols("con abc/1")
	decl := "con abc/1"
	y, _ := notation.Symbols(decl)
	from, at := uintptr(unsafe.Pointer(unsafe.StringData(decl))), uintptr(unsafe.Pointer(unsafe.StringData(y[0].Name)))
	if from <= at && at < from+uintptr(len(decl)) {
		t.Error("a name is a piece of the text's own memory")
	}
	x[0].Name = "other"
	if y[0].Name != "abc" {
		t.Errorf("%v", y)
	}
}

// R4, R5: a signature stays as it is, and the same is answered each time.
func TestReadAgain(t *testing.T) {
	s := signature(t)
	for _, text := range []string{"add(X,q)", "add(X,Y)", "s", "s(z", "#"} {
		if a, b := ask(t, s, "term", text), ask(t, s, "term", text); a != b {
			t.Errorf("%q: %v, then %v", text, a, b)
		}
		ask(t, s, "rules", text+" -> "+text)
	}
	if s.Len() != len(symbols()) {
		t.Errorf("%d symbols", s.Len())
	}
	for n, x := range s.All() {
		if x != symbols()[n] {
			t.Errorf("%d is %v", n, x)
		}
	}
}

// Errors: a Fault bears its number, and lex's where it comes of it, and no other; it is another one each time.
func TestFaults(t *testing.T) {
	s := signature(t)
	for _, c := range []struct {
		call  func() error
		bears []api.Errno
	}{
		{func() error { _, err := notation.Term(nil, "z"); return err }, []api.Errno{1}},
		{func() error { _, err := notation.Rules(nil, "z"); return err }, []api.Errno{1}},
		{func() error { _, err := notation.Symbols("con 00"); return err }, []api.Errno{40, 33}},
		{func() error { _, err := notation.Term(s, "abcdefghijklm"); return err }, []api.Errno{40, 32}},
		{func() error { _, err := notation.Rules(s, "-"); return err }, []api.Errno{40, 31}},
		{func() error { _, err := notation.Path(strings.Repeat("*", 20001)); return err }, []api.Errno{40, 30}},
		{func() error { _, err := notation.Moves("_"); return err }, []api.Errno{40, 31}},
		{func() error { _, err := notation.Path(""); return err }, []api.Errno{41}},
		{func() error { _, err := notation.Symbols(declared(65)); return err }, []api.Errno{42}},
		{func() error { _, err := notation.Rules(s, "q -> z"); return err }, []api.Errno{43}},
		{func() error { _, err := notation.Term(s, "s"); return err }, []api.Errno{44}},
		{func() error { _, err := notation.Term(s, chain(2001, "z")); return err }, []api.Errno{45}},
		{func() error { _, err := notation.Term(s, list(variables("X", 100))); return err }, []api.Errno{46}},
	} {
		err, again := c.call(), c.call()
		var f, g *api.Fault
		if !errors.As(err, &f) || !errors.As(again, &g) || f == g {
			t.Fatalf("%v: %v, %v", c.bears, err, again)
		}
		var under, other *api.Fault
		if len(c.bears) == 2 && (!errors.As(f.Why, &under) || !errors.As(g.Why, &other) || under == other || under.Code != c.bears[1]) {
			t.Errorf("%v: %v, %v", c.bears, err, again)
		}
		f.Code, f.At, f.Why = 7, 7, nil
		for n := api.Errno(0); n < 250; n++ {
			if errors.Is(again, n) != slices.Contains(c.bears, n) {
				t.Errorf("%v: %v is %d", c.bears, again, int(n))
			}
		}
		if third := c.call(); !errors.Is(third, c.bears[0]) {
			t.Errorf("%v: then %v", c.bears, third)
		}
	}
}
