package system_test

import (
	"errors"
	"math/rand"
	"slices"
	"strconv"
	"strings"
	"testing"

	"ropewalk/api"
	"ropewalk/code"
	"ropewalk/notation"
	"ropewalk/rules"
	"ropewalk/sig"
	"ropewalk/system"
	"ropewalk/tree"
)

// The numbers of the symbols of declared: the first ones as in the chapter, those from p on the tests' own.
const (
	z = iota
	s
	add
	a
	f
	p
	h
	g
	k
)

const declared = "con z/0, s/1; fun add/2; con a/0; fun f/3; con p/2; fun h/0, g/3, k/1"

// The rules of the chapter.
const sum = "add(z,X) -> X; add(s(X),Y) -> s(add(X,Y))"

// three are rules of a symbol with three arguments that have no case tree, though no two of them overlap.
func three(name string) string {
	return name + "(z,a,X) -> z; " + name + "(a,X,z) -> z; " + name + "(X,z,a) -> z"
}

// symbols are symbols that are written out.
func symbols(t *testing.T, text string) []api.Symbol {
	t.Helper()
	l, err := notation.Symbols(text)
	if err != nil {
		t.Fatalf("%s: %v", text, err)
	}
	return l
}

// read are rules that are written out, over declared.
func read(t *testing.T, text string) []api.Rule {
	t.Helper()
	l, err := notation.Rules(signature(t, symbols(t, declared)), text)
	if err != nil {
		t.Fatalf("%s: %v", text, err)
	}
	return l
}

func signature(t *testing.T, l []api.Symbol) *sig.Sig {
	t.Helper()
	x := sig.New()
	for _, y := range l {
		if _, e := x.Add(y); e != api.OK {
			t.Fatal(e)
		}
	}
	return x
}

// filled is a system over declared, with rules that came in one call a text.
func filled(t *testing.T, texts ...string) *system.System {
	t.Helper()
	y := system.New()
	taken(t, y.AddSymbols(symbols(t, declared)))
	for _, text := range texts {
		taken(t, y.AddRules(read(t, text)))
	}
	return y
}

func taken(t *testing.T, err error) {
	t.Helper()
	if err != nil {
		t.Fatal(err)
	}
}

// refused asks for what an error must tell, by told.
func refused(t *testing.T, err error, want string) {
	t.Helper()
	if got := told(t, err); got != want {
		t.Errorf("%s, not %s", got, want)
	}
}

func rule(left, right api.Term) api.Rule { return api.Rule{Left: left, Right: right} }

// apart are rules of k of which no two have an instance in common: k(z) -> z; k(s(z)) -> z; k(s(s(z))) -> z ...
func apart(from, to int) []api.Rule {
	var l []api.Rule
	for n := from; n < to; n++ {
		l = append(l, rule(slices.Concat(api.Term{k}, slices.Repeat(api.Term{s}, n), api.Term{z}), api.Term{z}))
	}
	return l
}

// many are constructors of unlike names.
func many(from, to int) []api.Symbol {
	var l []api.Symbol
	for n := from; n < to; n++ {
		l = append(l, api.Symbol{Name: "m" + strconv.Itoa(n), Arity: n % 7, Defined: n%3 == 0})
	}
	return l
}

// told is an error as the desk tells it: of each Fault its number, @ and its At, of an Errno at the end its number. What may not be is fatal.
func told(t *testing.T, err error) string {
	t.Helper()
	var words []string
	for depth := 0; err != nil; depth++ {
		if n, ok := err.(api.Errno); ok && depth > 0 {
			return strings.Join(append(words, strconv.Itoa(int(n))), " ")
		}
		x, ok := err.(*api.Fault)
		if !ok || x == nil {
			t.Fatalf("%v is neither a Fault nor, behind one, an Errno", err)
		}
		words = append(words, strconv.Itoa(int(x.Code))+"@"+strconv.Itoa(x.At))
		err = x.Why
	}
	return strings.Join(words, " ")
}

// numbers are those that an error bears, by what is told of it.
func numbers(t *testing.T, err error) []api.Errno {
	t.Helper()
	var l []api.Errno
	for _, word := range strings.Fields(told(t, err)) {
		number, _, _ := strings.Cut(word, "@")
		n, _ := strconv.Atoi(number)
		l = append(l, api.Errno(n))
	}
	return l
}

// bears asks whether errors.Is finds in an error just the numbers that it, and what it comes of, bears, and errors.As the first Fault and the Errno at its end.
func bears(t *testing.T, err error) {
	t.Helper()
	l := numbers(t, err)
	for n := range api.Errno(250) {
		if errors.Is(err, n) != slices.Contains(l, n) {
			t.Errorf("errors.Is(%s, %d): %t", told(t, err), n, errors.Is(err, n))
		}
	}
	for depth := 0; err != nil; depth++ {
		var x *api.Fault
		if y, ok := err.(*api.Fault); errors.As(err, &x) != ok || x != y {
			t.Errorf("errors.As finds %v in %v", x, err)
		}
		var e api.Errno
		if _, ok := err.(api.Errno); ok && (!errors.As(err, &e) || e != l[depth]) {
			t.Errorf("errors.As finds %v in %v", e, err)
		}
		err = errors.Unwrap(err)
	}
}

// list is numbers as a text.
func list(l []int) string {
	var words []string
	for _, n := range l {
		words = append(words, strconv.Itoa(n))
	}
	return "[" + strings.Join(words, " ") + "]"
}

// shownCase is a case tree as a text, all of its fields.
func shownCase(c api.Case) string {
	text := "(" + strconv.Itoa(c.Kind) + " " + strconv.Itoa(c.Rule) + " " + list(c.Path)
	for _, x := range c.Kids {
		text += " " + strconv.Itoa(x.Symbol) + ":" + shownCase(x.Case)
	}
	return text + ")"
}

// shownCode is a Code as a text, all of its fields.
func shownCode(c api.Code) string {
	text := "ins"
	for _, x := range c.Ins {
		text += " " + list([]int{x.Op, x.A, x.B})
	}
	text += " paths"
	for _, x := range c.Paths {
		text += " " + list(x)
	}
	text += " entry " + list(c.Entry) + " rights"
	for _, l := range c.Rights {
		text += ";"
		for _, x := range l {
			text += " " + strconv.Itoa(x.Symbol) + list(x.Path)
		}
	}
	return text
}

func shownSymbols(l []api.Symbol) string {
	text := "symbols"
	for _, x := range l {
		text += " " + x.Name + "/" + strconv.Itoa(x.Arity) + "/" + strconv.FormatBool(x.Defined)
	}
	return text
}

func shownRules(l []api.Rule) string {
	text := "rules"
	for _, x := range l {
		text += " " + list(x.Left) + list(x.Right)
	}
	return text
}

func symbolsOf(x *sig.Sig) []api.Symbol {
	var l []api.Symbol
	for _, y := range x.All() {
		l = append(l, y)
	}
	return l
}

func rulesOf(y *system.System) []api.Rule {
	var l []api.Rule
	for _, x := range y.Rules().All() {
		l = append(l, x)
	}
	return l
}

// seen is all that a system tells, but for its Version; it must be the same by all its calls.
func seen(t *testing.T, y *system.System) string {
	t.Helper()
	own, store := symbolsOf(y.Sig()), y.Rules()
	if x := shownSymbols(symbolsOf(store.Sig())); x != shownSymbols(own) {
		t.Fatalf("Sig has %s, Rules' signature %s", shownSymbols(own), x)
	}
	compiled, err := code.Compile(store)
	if err != nil || shownCode(compiled) != shownCode(y.Code()) {
		t.Fatalf("Code %s; of its rules %s, %v", shownCode(y.Code()), shownCode(compiled), err)
	}
	lines := []string{shownSymbols(own), shownRules(rulesOf(y)), shownCode(compiled)}
	for symbol := -2; symbol < len(own)+2; symbol++ {
		c, err := y.Tree(symbol)
		want, why := tree.Build(store, symbol)
		if shownCase(c) != shownCase(want) || told(t, err) != told(t, why) {
			t.Fatalf("Tree(%d): %s, %v; of its rules %s, %v", symbol, shownCase(c), err, shownCase(want), why)
		}
		lines = append(lines, shownCase(c)+told(t, err))
	}
	return strings.Join(lines, "\n")
}

// whole is all that a system tells.
func whole(t *testing.T, y *system.System) string {
	t.Helper()
	return "version " + strconv.Itoa(y.Version()) + "\n" + seen(t, y)
}

// model is a system as the chapter tells it: lists, each call worked out from the beginning.
type model struct {
	symbols []api.Symbol
	rules   []api.Rule
	version int
}

func (m model) copied() model {
	return model{slices.Clone(m.symbols), slices.Clone(m.rules), m.version}
}

// whole is what a system that is the same must tell.
func (m model) whole(t *testing.T) string {
	t.Helper()
	store := storeOf(t, m.symbols, m.rules)
	compiled, err := code.Compile(store)
	taken(t, err)
	lines := []string{"version " + strconv.Itoa(m.version), shownSymbols(m.symbols), shownRules(m.rules), shownCode(compiled)}
	for symbol := -2; symbol < len(m.symbols)+2; symbol++ {
		c, err := tree.Build(store, symbol)
		lines = append(lines, shownCase(c)+told(t, err))
	}
	return strings.Join(lines, "\n")
}

// addSymbols is what AddSymbols must tell.
func (m *model) addSymbols(t *testing.T, l []api.Symbol) string {
	t.Helper()
	x := signature(t, m.symbols)
	for n, y := range l {
		if _, e := x.Add(y); e != api.OK {
			return "100@" + strconv.Itoa(n) + " " + strconv.Itoa(int(e))
		}
	}
	m.symbols = slices.Concat(m.symbols, l)
	return ""
}

// addRules is what AddRules must tell.
func (m *model) addRules(t *testing.T, l []api.Rule) string {
	t.Helper()
	store := storeOf(t, m.symbols, m.rules)
	if why := told(t, store.Check(l)); why != "" {
		_, behind, _ := strings.Cut(why, "@")
		at, _, _ := strings.Cut(behind, " ")
		return "101@" + at + " " + why
	}
	store = storeOf(t, m.symbols, slices.Concat(m.rules, l))
	for symbol, x := range m.symbols {
		if _, err := tree.Build(store, symbol); x.Defined && err != nil {
			return "102@" + strconv.Itoa(symbol) + " " + told(t, err)
		}
	}
	m.rules = slices.Concat(m.rules, l)
	if len(l) > 0 {
		m.version++
	}
	return ""
}

// someSymbols are symbols that a seed's numbers choose, some of which may not be.
func someSymbols(r *rand.Rand) []api.Symbol {
	var l []api.Symbol
	for range r.Intn(4) {
		x := api.Symbol{Name: "n" + strconv.Itoa(r.Intn(60)), Arity: r.Intn(4), Defined: r.Intn(2) == 0}
		switch r.Intn(16) {
		case 0:
			x.Name = []string{"", "N", "n_", "nnnnnnnnnnnnn", "1n", "z", "\xff"}[r.Intn(7)]
		case 1:
			x.Arity = []int{-1, 7, 6}[r.Intn(3)]
		}
		l = append(l, x)
	}
	return l
}

// someTerm is a term that a seed's numbers choose, at most so deep: its symbols are among those of a list, its variables take the next number each.
func someTerm(r *rand.Rand, l []api.Symbol, depth int, wanted func(api.Symbol) bool, next *int) api.Term {
	var heads []int
	for n, x := range l {
		if wanted(x) && (depth > 0 || x.Arity == 0) {
			heads = append(heads, n)
		}
	}
	if len(heads) == 0 || r.Intn(3) == 0 && *next < 90 {
		*next++
		return api.Term{-*next}
	}
	head := heads[r.Intn(len(heads))]
	t := api.Term{head}
	for range l[head].Arity {
		t = append(t, someTerm(r, l, depth-1, wanted, next)...)
	}
	return t
}

// someLeft is a left side of a symbol that a seed's numbers choose, and how many variables it has.
func someLeft(r *rand.Rand, l []api.Symbol, head int) (api.Term, int) {
	left, variables := api.Term{head}, 0
	if l[head].Arity == 3 && r.Intn(6) > 0 { // one of three that fork together
		return append(left, []api.Term{{z, a, -1}, {a, -1, z}, {-1, z, a}}[r.Intn(3)]...), 1
	}
	constructor := func(x api.Symbol) bool { return !x.Defined }
	for range l[head].Arity {
		left = append(left, someTerm(r, l[:p], 1, constructor, &variables)...)
	}
	return left, variables
}

// someRules are rules that a seed's numbers choose, over declared and what stands behind it, mostly such as a store takes.
func someRules(r *rand.Rand, l []api.Symbol) []api.Rule {
	var out []api.Rule
	anyone := func(api.Symbol) bool { return true }
	for range r.Intn(3) {
		head := r.Intn(len(l))
		if r.Intn(12) > 0 {
			head = []int{add, f, f, f, g, g, g, k, h}[r.Intn(9)]
		}
		left, variables := someLeft(r, l, head)
		none := 0
		right := someTerm(r, l, 2, anyone, &none)
		for i, n := range right {
			if n < 0 && variables > 0 {
				right[i] = -1 - r.Intn(variables)
			} else if n < 0 {
				right[i] = z
			}
		}
		switch r.Intn(24) {
		case 0:
			left = append(left, z)
		case 1:
			right = api.Term{-99}
		case 2:
			right = api.Term{len(l)}
		}
		out = append(out, rule(left, right))
	}
	return out
}

// storeOf is a store of rules that are right.
func storeOf(t *testing.T, l []api.Symbol, own []api.Rule) *rules.Store {
	t.Helper()
	r := rules.New(signature(t, l))
	taken(t, r.Add(own))
	return r
}
