package notation_test

import (
	"errors"
	"fmt"
	"math"
	"math/rand"
	"slices"
	"strconv"
	"strings"
	"testing"

	"ropewalk/api"
	"ropewalk/notation"
	"ropewalk/sig"
	"ropewalk/term"
)

// written is what a writer answers.
type written struct {
	text string
	code api.Errno
}

func text(s string) written { return written{text: s} }

func refused(code api.Errno) written { return written{code: code} }

func mustWrite(t *testing.T, what string, s string, e api.Errno, w written) {
	t.Helper()
	if (written{s, e}) != w {
		t.Errorf("%s: %.200q, %v, not %.200v", what, s, e, w)
	}
}

func mustSymbols(t *testing.T, l []api.Symbol, w written) {
	t.Helper()
	s, e := notation.PrintSymbols(l)
	mustWrite(t, fmt.Sprintf("PrintSymbols %.200v", l), s, e, w)
}

func mustTerm(t *testing.T, s *sig.Sig, u api.Term, w written) {
	t.Helper()
	x, e := notation.PrintTerm(s, u)
	mustWrite(t, fmt.Sprintf("PrintTerm %.100v", u), x, e, w)
}

func mustRules(t *testing.T, s *sig.Sig, l []api.Rule, w written) {
	t.Helper()
	x, e := notation.PrintRules(s, l)
	mustWrite(t, fmt.Sprintf("PrintRules %.100v", l), x, e, w)
}

// P4.6 to P4.9: the chapter's examples.
func TestExamplesWritten(t *testing.T) {
	s := signature(t)
	mustSymbols(t, symbols()[:3], text("con z/0, s/1; fun add/2"))
	mustSymbols(t, []api.Symbol{{Name: "Z"}}, refused(api.ErrNoteSymbol))
	mustTerm(t, s, api.Term{2, 1, -7, -1}, text("add(s(X7),X1)"))
	if x := notation.PrintPath([]int{0, 12}); x != "0.12" {
		t.Errorf("a path: %q", x)
	}
	if x := notation.PrintMoves([]api.Move{move(3), move(0, 1, 0)}); x != "*:3, 1.0:0" {
		t.Errorf("moves: %q", x)
	}
}

// P4.6: each row of constructors and defined symbols.
func TestPrintSymbols(t *testing.T) {
	mustSymbols(t, nil, text(""))
	mustSymbols(t, []api.Symbol{}, text(""))
	mustSymbols(t, []api.Symbol{fun("a", 0)}, text("fun a/0"))
	mustSymbols(t, []api.Symbol{con("a", 0)}, text("con a/0"))
	mustSymbols(t, []api.Symbol{fun("a", 1), fun("b", 2)}, text("fun a/1, b/2"))
	mustSymbols(t, []api.Symbol{fun("a", 1), con("b", 2)}, text("fun a/1; con b/2"))
	mustSymbols(t, []api.Symbol{con("a", 1), fun("a", 1), con("a", 7), con("a", 999999999)}, text("con a/1; fun a/1; con a/7, a/999999999"))
	mustSymbols(t, []api.Symbol{con("con", 0), con("fun", 1), fun("con", 2)}, text("con con/0, fun/1; fun con/2"))
}

// P4.6: what is no name, and which arities can't be written; of the first one that is wrong.
func TestPrintSymbolsRefused(t *testing.T) {
	good := api.Symbol{Name: "a"}
	for _, name := range []string{"", "Z", "1a", "aB", "a_b", "a b", "abcdefghijklm", "é", "a\n", "a/0, b"} {
		mustSymbols(t, []api.Symbol{{Name: name}}, refused(api.ErrNoteSymbol))
		mustSymbols(t, []api.Symbol{good, {Name: name, Arity: -1}, {Name: "a", Arity: -1}}, refused(api.ErrNoteSymbol))
	}
	mustSymbols(t, []api.Symbol{{Name: "abcdefghijkl"}}, text("con abcdefghijkl/0"))
	for _, arity := range []int{-1, 1000000000, math.MaxInt, math.MinInt} {
		mustSymbols(t, []api.Symbol{{Name: "a", Arity: arity}}, refused(api.ErrNoteArity))
		mustSymbols(t, []api.Symbol{good, {Name: "a", Arity: arity}, {Name: "A", Arity: 0}}, refused(api.ErrNoteArity))
	}
}

// P4.6, R2: 64 symbols and 65; too many are told ahead of a wrong one.
func TestPrintSymbolsMany(t *testing.T) {
	l := slices.Repeat([]api.Symbol{con("abcdefghijkl", 999999999), fun("abcdefghijkl", 999999999)}, 33)
	x, e := notation.PrintSymbols(l[:64])
	if want := strings.TrimSuffix(strings.Repeat("con abcdefghijkl/999999999; fun abcdefghijkl/999999999; ", 32), "; "); x != want || e != api.OK {
		t.Errorf("64: %q, %v", x, e)
	}
	mustSymbols(t, l[:65], refused(api.ErrNoteMany))
	l[0] = api.Symbol{Name: "A", Arity: -1}
	mustSymbols(t, l[:65], refused(api.ErrNoteMany))
	mustSymbols(t, l[:64], refused(api.ErrNoteSymbol))
}

// P4.7: terms of all arities, without blanks.
func TestPrintTerm(t *testing.T) {
	s := signature(t)
	for want, u := range map[string]api.Term{
		"z":                               {0},
		"X1":                              {-1},
		"X99":                             {-99},
		"s(X10)":                          {1, -10},
		"add(add(z,X2),s(con))":           {2, 2, 0, -2, 1, 7},
		"six(z,s(z),X1,three(z,z,z),z,z)": {6, 0, 1, 0, -1, 3, 0, 0, 0, 0, 0},
		"fun(con)":                        {8, 7},
		"four(X3,X1,X3,X2)":               {4, -3, -1, -3, -2},
		"five(z,z,z,z,five(z,z,z,z,z))":   {5, 0, 0, 0, 0, 5, 0, 0, 0, 0, 0},
	} {
		mustTerm(t, s, u, text(want))
	}
}

// nonterms are lists that are no terms, with what is wrong with each.
func nonterms() map[api.Errno]api.Term {
	return map[api.Errno]api.Term{
		api.ErrTermLong:     slices.Repeat(api.Term{-100}, 2001),
		api.ErrTermSymbol:   {2, 0, 12},
		api.ErrTermVariable: {2, -100, 12},
		api.ErrTermShape:    {2, 0},
	}
}

// P4.7: term.Check's errors, ErrArg ahead of them.
func TestPrintTermRefused(t *testing.T) {
	s := signature(t)
	for e, u := range nonterms() {
		mustTerm(t, s, u, refused(e))
		mustTerm(t, nil, u, refused(api.ErrArg))
	}
	for _, u := range []api.Term{nil, {}, {0, 0}, {-1, -1}, {1}} {
		mustTerm(t, s, u, refused(api.ErrTermShape))
	}
	mustTerm(t, s, api.Term{math.MaxInt}, refused(api.ErrTermSymbol))
	mustTerm(t, s, api.Term{math.MinInt}, refused(api.ErrTermVariable))
	mustTerm(t, nil, api.Term{0}, refused(api.ErrArg))
	mustTerm(t, nil, nil, refused(api.ErrArg))
	mustTerm(t, sig.New(), api.Term{0}, refused(api.ErrTermSymbol))
	mustTerm(t, &sig.Sig{}, api.Term{-5}, text("X5"))
}

// deep is the symbol 9, of 12 letters, so many times, around another: 14 bytes each.
func deep(count, last int) api.Term {
	return append(slices.Repeat(api.Term{9}, count), last)
}

// P4.7: a text of 20000 bytes, and of 20001; a list that is no term is told ahead of that.
func TestPrintTermLong(t *testing.T) {
	s := signature(t)
	full := strings.Repeat("abcdefghijkl(", 1428) + "abcdefgh" + strings.Repeat(")", 1428)
	if len(full) != 20000 {
		t.Fatalf("%d bytes", len(full))
	}
	mustTerm(t, s, deep(1428, 10), text(full))
	want(t, s, "term", full, read(deep(1428, 10)))
	mustTerm(t, s, deep(1428, 11), refused(api.ErrNoteLong))
	mustTerm(t, s, deep(1999, 0), refused(api.ErrNoteLong))
	mustTerm(t, s, deep(1999, 12), refused(api.ErrTermSymbol))
	mustTerm(t, s, deep(1999, 9), refused(api.ErrTermShape))
	mustTerm(t, s, deep(2000, 0), refused(api.ErrTermLong))
	chained := append(slices.Repeat(api.Term{1}, 1999), 0)
	mustTerm(t, s, chained, text(chain(2000, "z")))
}

// P4.8: rules, with what parts them.
func TestPrintRules(t *testing.T) {
	s := signature(t)
	mustRules(t, s, nil, text(""))
	mustRules(t, s, []api.Rule{}, text(""))
	mustRules(t, s, []api.Rule{rule(api.Term{2, 0, -1}, api.Term{-1})}, text("add(z,X1) -> X1"))
	mustRules(t, s, []api.Rule{rule(api.Term{2, 1, -5, -3}, api.Term{1, 2, -5, -3}), rule(api.Term{0}, api.Term{0}), rule(api.Term{-9}, api.Term{-8})}, text("add(s(X5),X3) -> s(add(X5,X3)); z -> z; X9 -> X8"))
	one := api.Rule{Left: api.Term{0}, Right: api.Term{-1}}
	mustRules(t, s, slices.Repeat([]api.Rule{one}, 100), text(strings.TrimSuffix(strings.Repeat("z -> X1; ", 100), "; ")))
	mustRules(t, s, slices.Repeat([]api.Rule{one}, 101), refused(api.ErrNoteMany))
	mustRules(t, s, slices.Repeat([]api.Rule{{}}, 101), refused(api.ErrNoteMany))
	mustRules(t, nil, slices.Repeat([]api.Rule{{}}, 101), refused(api.ErrArg))
	mustRules(t, nil, nil, refused(api.ErrArg))
}

// P4.8, R2: term.Check's errors, rule by rule, the left side's first, ahead of a text that is too long.
func TestPrintRulesRefused(t *testing.T) {
	s := signature(t)
	good := api.Term{0}
	long := api.Rule{Left: deep(1999, 0), Right: good}
	for e, u := range nonterms() {
		mustRules(t, nil, []api.Rule{rule(u, u)}, refused(api.ErrArg))
		mustRules(t, s, []api.Rule{rule(u, good)}, refused(e))
		mustRules(t, s, []api.Rule{long, rule(good, u)}, refused(e))
		for other, v := range nonterms() {
			mustRules(t, s, []api.Rule{rule(u, v)}, refused(e))
			mustRules(t, s, []api.Rule{rule(good, v), rule(u, good)}, refused(other))
		}
	}
	mustRules(t, s, []api.Rule{{}}, refused(api.ErrTermShape))
	mustRules(t, s, []api.Rule{long}, refused(api.ErrNoteLong))
	mustRules(t, s, slices.Repeat([]api.Rule{rule(deep(1999, 0), deep(1999, 0))}, 100), refused(api.ErrNoteLong))
}

// P4.8: a text of 20000 bytes, and of 20001: no side of it is too long.
func TestPrintRulesLong(t *testing.T) {
	s := signature(t)
	// Two rules: the signs take 4 + 2 + 4 bytes, the names around the last ones 14 each, and those 9, 1, 8 and 8.
	full := []api.Rule{rule(deep(700, 11), deep(10, 0)), rule(deep(700, 10), deep(16, 10))}
	x, e := notation.PrintRules(s, full)
	if len(x) != 20000 || e != api.OK {
		t.Errorf("%d bytes, %v", len(x), e)
	}
	want(t, s, "rules", x, read(full))
	full[1].Right = deep(16, 11)
	mustRules(t, s, full, refused(api.ErrNoteLong))
}

// P4.9, R6: whatever numbers they are.
func TestPrintPathsAndMoves(t *testing.T) {
	for want, path := range map[string][]int{
		"0":              {0},
		"1.0.6":          {1, 0, 6},
		"-1.10.-999":     {-1, 10, -999},
		"1000000000.0.0": {1000000000, 0, 0},
		strconv.Itoa(math.MinInt) + "." + strconv.Itoa(math.MaxInt): {math.MinInt, math.MaxInt},
	} {
		if x := notation.PrintPath(path); x != want {
			t.Errorf("%v: %q", path, x)
		}
		if x := notation.PrintMoves([]api.Move{move(-7, path...), move(12, path...)}); x != want+":-7, "+want+":12" {
			t.Errorf("moves of %v: %q", path, x)
		}
	}
	for _, path := range [][]int{nil, {}} {
		if x := notation.PrintPath(path); x != "*" {
			t.Errorf("none: %q", x)
		}
		if x := notation.PrintMoves([]api.Move{{Path: path}}); x != "*:0" {
			t.Errorf("moves of none: %q", x)
		}
	}
	if x, y := notation.PrintMoves(nil), notation.PrintMoves([]api.Move{}); x != "" || y != "" {
		t.Errorf("no moves: %q, %q", x, y)
	}
	many := slices.Repeat([]api.Move{move(4, slices.Repeat([]int{3}, 20)...)}, 2000)
	if x := notation.PrintMoves(many); len(x) != 2000*(39+2+2)-2 {
		t.Errorf("2000 moves: %d bytes", len(x))
	}
	if x := notation.PrintPath(make([]int, 30000)); len(x) != 59999 {
		t.Errorf("30000 numbers: %d bytes", len(x))
	}
}

// grown is a term that a seed's numbers choose.
func grown(r *rand.Rand, depth int) api.Term {
	if depth == 0 || r.Intn(5) == 0 {
		return api.Term{[]int{-1 - r.Intn(99), -1 - r.Intn(3), 0, 7, 10}[r.Intn(5)]}
	}
	n := 1 + r.Intn(6)
	t := api.Term{n}
	for range n { // the symbols 1 to 6 have as many arguments
		t = append(t, grown(r, depth-1)...)
	}
	return t
}

// P4.10: what is written is read as the same, but for the variables' numbers.
func TestWrittenThenRead(t *testing.T) {
	s := signature(t)
	r := rand.New(rand.NewSource(6))
	for range 400 {
		u := grown(r, 1+r.Intn(4))
		if x, e := notation.PrintTerm(s, u); e == api.OK {
			want(t, s, "term", x, read(term.Plain(u)[0]))
		} else if len(u) <= 2000 {
			t.Errorf("%v: %v", u, e)
		}
		var rules, plain []api.Rule
		var symbols []api.Symbol
		var moves []api.Move
		var path []int
		for range r.Intn(6) {
			x := api.Rule{Left: grown(r, 2), Right: grown(r, 2)}
			two := term.Plain(x.Left, x.Right)
			rules, plain = append(rules, x), append(plain, api.Rule{Left: two[0], Right: two[1]})
			symbols = append(symbols, api.Symbol{Name: string(rune('a' + r.Intn(26))), Arity: r.Intn(1000000000), Defined: r.Intn(2) == 0})
			path = append(path, r.Intn(1000000000))
			moves = append(moves, api.Move{Path: slices.Clone(path[r.Intn(len(path)+1):]), Rule: r.Intn(1000000000)})
		}
		x, _ := notation.PrintRules(s, rules)
		want(t, s, "rules", x, read(plain))
		x, _ = notation.PrintSymbols(symbols)
		want(t, s, "declarations", x, read(symbols))
		want(t, s, "path", notation.PrintPath(path), read(path))
		want(t, s, "moves", notation.PrintMoves(moves), read(moves))
	}
}

// P4.10: what is read, written and read again is the same.
func TestReadWrittenRead(t *testing.T) {
	s := signature(t)
	m := maker{rand.New(rand.NewSource(7))}
	for range 1500 {
		for _, kind := range strings.Fields(kinds) {
			once := m.laid(m.text(kind))
			first := ask(t, s, kind, once)
			if first.code == api.OK {
				want(t, s, kind, rewritten(t, s, kind, once), first)
			}
		}
	}
}

// rewritten is a text that was read and written.
func rewritten(t *testing.T, s *sig.Sig, kind, once string) string {
	t.Helper()
	var again string
	var e api.Errno
	switch kind {
	case "declarations":
		l, _ := notation.Symbols(once)
		again, e = notation.PrintSymbols(l)
	case "term":
		l, _ := notation.Term(s, once)
		again, e = notation.PrintTerm(s, l)
	case "rules":
		l, _ := notation.Rules(s, once)
		again, e = notation.PrintRules(s, l)
	case "path":
		l, _ := notation.Path(once)
		again = notation.PrintPath(l)
	case "moves":
		l, _ := notation.Moves(once)
		again = notation.PrintMoves(l)
	}
	if e != api.OK {
		t.Fatalf("%s %q: %v", kind, once, e)
	}
	return again
}

// R4, R5: what is handed in stays as it is, its spare room too, and the same is answered each time.
func TestWritersChangeNothing(t *testing.T) {
	s := signature(t)
	room := []int{2, 1, -7, -1, 9, 9, 9}
	u := api.Term(room[:4])
	rules := []api.Rule{rule(u, u[1:3]), rule(u, u), rule(api.Term{5}, nil)}
	moves := []api.Move{move(1, room[:2]...), move(2, room[2:3]...), move(3, room...)}
	decl := append(symbols(), api.Symbol{Name: "Spare"})
	for range 2 {
		mustTerm(t, s, u, text("add(s(X7),X1)"))
		mustRules(t, s, rules[:2], text("add(s(X7),X1) -> s(X7); add(s(X7),X1) -> add(s(X7),X1)"))
		mustSymbols(t, decl[:3], text("con z/0, s/1; fun add/2"))
		if x := notation.PrintMoves(moves[:2]); x != "2.1:1, -7:2" {
			t.Errorf("moves: %q", x)
		}
		if x := notation.PrintPath(room[:2]); x != "2.1" {
			t.Errorf("path: %q", x)
		}
	}
	if !slices.Equal(room, []int{2, 1, -7, -1, 9, 9, 9}) || fmt.Sprint(rules[2]) != "{[5] []}" || fmt.Sprint(moves[2]) != "{[2 1 -7 -1 9 9 9] 3}" || !slices.Equal(decl, append(symbols(), api.Symbol{Name: "Spare"})) {
		t.Error("what was handed in has changed")
	}
	if s.Len() != len(symbols()) {
		t.Errorf("%d symbols", s.Len())
	}
}

// Errors: the writers' numbers are found as errors, too; the limits are the document's.
func TestNumbers(t *testing.T) {
	_, e := notation.PrintTerm(signature(t), nil)
	if !errors.Is(e, api.ErrTermShape) {
		t.Errorf("%v", e)
	}
	if api.MaxText != 20000 || api.MaxSymbols != 64 || api.MaxTerm != 2000 || api.MaxRules != 100 || api.MaxMoves != 1000 || api.MaxVariables != 99 {
		t.Error("limits")
	}
}
