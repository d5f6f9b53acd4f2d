package code_test

import (
	"errors"
	"math"
	"math/rand"
	"slices"
	"strconv"
	"strings"
	"testing"

	"ropewalk/api"
	"ropewalk/code"
	"ropewalk/notation"
	"ropewalk/rules"
	"ropewalk/sig"
)

// symbols: the first ones as in the chapter; those from a on are the tests' own.
func symbols() []api.Symbol {
	return []api.Symbol{
		{Name: "z"}, {Name: "s", Arity: 1}, {Name: "add", Arity: 2, Defined: true}, {Name: "h", Defined: true},
		{Name: "a"}, {Name: "p", Arity: 2}, {Name: "f", Arity: 3, Defined: true}, {Name: "six", Arity: 6},
		{Name: "g", Arity: 6, Defined: true}, {Name: "k", Arity: 1, Defined: true},
	}
}

// The numbers of symbols.
const (
	z = iota
	s
	add
	h
	a
	p
	f
	six
	g
	k
)

func signature(t *testing.T) *sig.Sig {
	t.Helper()
	x := sig.New()
	for _, y := range symbols() {
		if _, e := x.Add(y); e != api.OK {
			t.Fatal(e)
		}
	}
	return x
}

// term is a term that is written out.
func term(t *testing.T, text string) api.Term {
	t.Helper()
	x, err := notation.Term(signature(t), text)
	if err != nil {
		t.Fatalf("%s: %v", text, err)
	}
	return x
}

// filled is a store with rules that are written out.
func filled(t *testing.T, text string) *rules.Store {
	t.Helper()
	l, err := notation.Rules(signature(t), text)
	if err != nil {
		t.Fatalf("%s: %v", text, err)
	}
	return storeOf(t, l)
}

func storeOf(t *testing.T, l []api.Rule) *rules.Store {
	t.Helper()
	r := rules.New(signature(t))
	if err := r.Add(l); err != nil {
		t.Fatal(err)
	}
	return r
}

// compiled is the code of rules that are written out.
func compiled(t *testing.T, text string) api.Code {
	t.Helper()
	c, err := code.Compile(filled(t, text))
	if err != nil {
		t.Fatalf("%s: %v", text, err)
	}
	return c
}

// Hand-made nodes of case trees.
func leaf(rule int) api.Case { return api.Case{Kind: api.Leaf, Rule: rule} }

func fail() api.Case { return api.Case{Kind: api.Fail} }

func branch(path []int, kids ...api.Kid) api.Case {
	return api.Case{Kind: api.Branch, Path: path, Kids: kids}
}

func kid(symbol int, c api.Case) api.Kid { return api.Kid{Symbol: symbol, Case: c} }

// Hand-made instructions.
func look(path int) api.Ins { return api.Ins{Op: api.OpLook, A: path} }

func inCase(symbol, next int) api.Ins { return api.Ins{Op: api.OpCase, A: symbol, B: next} }

func stuck() api.Ins { return api.Ins{Op: api.OpStuck} }

func byRule(rule int) api.Ins { return api.Ins{Op: api.OpRule, A: rule} }

// What is found.
func fits(rule int) api.Found { return api.Found{Kind: api.Fits, Rule: rule} }

func rigid() api.Found { return api.Found{Kind: api.Rigid} }

func demand(node int, path ...int) api.Found {
	return api.Found{Kind: api.Demand, Path: path, Node: node}
}

func none() api.Found { return api.Found{} }

func sameFound(x, y api.Found) bool {
	return x.Kind == y.Kind && x.Rule == y.Rule && slices.Equal(x.Path, y.Path) && x.Node == y.Node
}

// shown is instructions as a text: each its name and the numbers that it has by the chapter. What may not be is "wrong".
func shown(l []api.Ins) string {
	var words []string
	for _, i := range l {
		switch {
		case i.Op == api.OpLook && i.B == 0:
			words = append(words, "look "+strconv.Itoa(i.A))
		case i.Op == api.OpCase:
			words = append(words, "case "+strconv.Itoa(i.A)+" "+strconv.Itoa(i.B))
		case i.Op == api.OpStuck && i.A == 0 && i.B == 0:
			words = append(words, "stuck")
		case i.Op == api.OpRule && i.B == 0:
			words = append(words, "rule "+strconv.Itoa(i.A))
		default:
			words = append(words, "wrong")
		}
	}
	return strings.Join(words, "; ")
}

// shownPaths is paths as a text, one behind the other.
func shownPaths(l [][]int) string {
	var words []string
	for _, path := range l {
		words = append(words, notation.PrintPath(path))
	}
	return strings.Join(words, " ")
}

// shownRights is right sides as a text: a symbol its number, a variable its path behind an @.
func shownRights(l [][]api.Part) string {
	var sides []string
	for _, parts := range l {
		var words []string
		for _, x := range parts {
			switch {
			case x.Symbol >= 0 && len(x.Path) == 0:
				words = append(words, strconv.Itoa(x.Symbol))
			case x.Symbol == -1:
				words = append(words, "@"+notation.PrintPath(x.Path))
			default:
				words = append(words, "wrong")
			}
		}
		sides = append(sides, strings.Join(words, " "))
	}
	return strings.Join(sides, "; ")
}

// shownEntry is where symbols' codes begin, as a text.
func shownEntry(l []int) string {
	var words []string
	for _, n := range l {
		words = append(words, strconv.Itoa(n))
	}
	return strings.Join(words, " ")
}

// shownCode is all of a Code as a text.
func shownCode(c api.Code) string {
	return strings.Join([]string{shown(c.Ins), shownPaths(c.Paths), shownEntry(c.Entry), shownRights(c.Rights)}, " | ")
}

// verdict is what an error tells. Zero: it is nil.
type verdict struct {
	code, why api.Errno
	at, whyAt int
}

// forked is the verdict of a symbol that has no case tree.
func forked(symbol, least int) verdict {
	return verdict{api.ErrTreeNone, api.ErrTreeFork, symbol, least}
}

// told is the verdict of an error, which must be nil or a Fault as the document has it.
func told(t *testing.T, err error) verdict {
	t.Helper()
	if err == nil {
		return verdict{}
	}
	x, ok := err.(*api.Fault)
	if !ok || x == nil {
		t.Fatalf("%v is no Fault", err)
	}
	v := verdict{code: x.Code, at: x.At}
	if x.Why == nil {
		return v
	}
	y, ok := x.Why.(*api.Fault)
	if !ok || y == nil || y.Why != nil {
		t.Fatalf("%v comes of %v", err, x.Why)
	}
	v.why, v.whyAt = y.Code, y.At
	return v
}

// bears tells whether errors.Is finds just these numbers in an error.
func bears(err error, numbers ...api.Errno) bool {
	for n := range api.Errno(250) {
		if errors.Is(err, n) != slices.Contains(numbers, n) {
			return false
		}
	}
	return true
}

// isEmpty tells whether a Code has nothing.
func isEmpty(c api.Code) bool {
	return len(c.Ins) == 0 && len(c.Paths) == 0 && len(c.Entry) == 0 && len(c.Rights) == 0
}

// plant is a term that is not laid out as a list: the tests' own way to say where something stands.
type plant struct {
	number int
	kids   []plant
}

func (x plant) list() api.Term {
	t := api.Term{x.number}
	for _, y := range x.kids {
		t = append(t, y.list()...)
	}
	return t
}

// plantOf is the plant of a list that is a term.
func plantOf(t api.Term) plant {
	at := 0
	var take func() plant
	take = func() plant {
		x := plant{number: t[at]}
		at++
		if x.number >= 0 {
			for range symbols()[x.number].Arity {
				x.kids = append(x.kids, take())
			}
		}
		return x
	}
	return take()
}

// open is a symbol with variables as arguments.
func open(symbol int) plant {
	x := plant{number: symbol}
	for range symbols()[symbol].Arity {
		x.kids = append(x.kids, plant{number: -1})
	}
	return x
}

// along is what a path leads to.
func (x plant) along(path []int) plant {
	for _, n := range path {
		x = x.kids[n]
	}
	return x
}

// with is a plant that has another one where a path leads.
func (x plant) with(path []int, y plant) plant {
	if len(path) == 0 {
		return y
	}
	x.kids = slices.Clone(x.kids)
	x.kids[path[0]] = x.kids[path[0]].with(path[1:], y)
	return x
}

// paths are the paths to all places, in prefix order.
func (x plant) paths() [][]int {
	l := [][]int{{}}
	for n, y := range x.kids {
		for _, path := range y.paths() {
			l = append(l, append([]int{n}, path...))
		}
	}
	return l
}

// pathTo is the path to the first place at which a number stands.
func (x plant) pathTo(number int) []int {
	for _, path := range x.paths() {
		if x.along(path).number == number {
			return path
		}
	}
	return nil
}

// grown is a plant that a seed's numbers choose, at most so deep; what has no arguments is among the last ones.
func grown(r *rand.Rand, depth int, inner, last []int) plant {
	if depth <= 1 || r.Intn(3) == 0 {
		return plant{number: last[r.Intn(len(last))]}
	}
	x := plant{number: inner[r.Intn(len(inner))]}
	for range symbols()[x.number].Arity {
		x.kids = append(x.kids, grown(r, depth-1, inner, last))
	}
	return x
}

// closed is a closed plant whose root is a symbol.
func closed(r *rand.Rand, symbol, depth int) plant {
	x := open(symbol)
	for n := range x.kids {
		x.kids[n] = grown(r, depth, []int{s, s, p, p, six, add, f, k, g}, []int{z, z, z, a, a, h})
	}
	return x
}

// cleft are left sides of a symbol that come of parting a pattern again and again, in any order: mostly they have a case tree.
func cleft(r *rand.Rand, symbol, times int) []plant {
	l := []plant{open(symbol)}
	for range times {
		n := r.Intn(len(l))
		x := l[n]
		var paths [][]int
		for _, path := range x.paths() {
			if x.along(path).number < 0 {
				paths = append(paths, path)
			}
		}
		if len(paths) == 0 {
			continue
		}
		path := paths[r.Intn(len(paths))]
		l = slices.Delete(l, n, n+1)
		for _, head := range []int{z, s, a, p} {
			if r.Intn(4) > 0 || len(l) == 0 {
				l = append(l, x.with(path, open(head)))
			}
		}
	}
	return l
}

// ruleOf is a rule with a left side whose variables are unlike, in any order, and a right side that a seed's numbers choose.
func ruleOf(r *rand.Rand, left plant) api.Rule {
	t := left.list()
	numbers := r.Perm(api.MaxVariables)
	last := []int{z, a, h}
	for i, n := range t {
		if n < 0 {
			t[i] = -1 - numbers[i]
			last = append(last, t[i], t[i])
		}
	}
	return api.Rule{Left: t, Right: grown(r, 1+r.Intn(4), []int{s, p, add, f, k}, last).list()}
}

// chosen are rules that a seed's numbers choose, of several symbols, one among the other: the store takes them all.
func chosen(r *rand.Rand, symbols []int, times int) []api.Rule {
	var l []api.Rule
	for _, symbol := range symbols {
		for _, left := range cleft(r, symbol, r.Intn(times+1)) {
			l = append(l, ruleOf(r, left))
		}
	}
	r.Shuffle(len(l), func(i, j int) { l[i], l[j] = l[j], l[i] })
	return l
}

// scatter tries to add so many rules of a symbol to a store, which refuses those that overlap: some of what it takes has no case tree.
func scatter(r *rand.Rand, x *rules.Store, symbol, tries int) {
	for range tries {
		left := open(symbol)
		for n := range left.kids {
			left.kids[n] = grown(r, 1+r.Intn(2), []int{s, p}, []int{-1, -1, z, a})
		}
		x.Add([]api.Rule{ruleOf(r, left)})
	}
}

// three are rules that have no case tree, with what stands ahead of each and behind it.
func three(ahead, behind string) string {
	l := []string{"z,a,X", "a,X,z", "X,z,a"}
	for i, x := range l {
		l[i] = ahead + x + behind + " -> z"
	}
	return strings.Join(l, "; ")
}

// chain is a number, so many s behind it, and a last number.
func chain(first, times, last int) api.Term {
	return append(append(api.Term{first}, slices.Repeat([]int{s}, times)...), last)
}

// spot is a node of a graph.
type spot struct {
	symbol int
	rigid  bool
	args   []int
}

// graph is a view that is not Plain: it has whatever nodes somebody writes down, and notes what it was asked.
type graph struct {
	spots map[int]spot
	asked []string
}

func (x *graph) Head(node int) (int, bool) {
	x.asked = append(x.asked, "head "+strconv.Itoa(node))
	y, ok := x.spots[node]
	if !ok {
		return -1, false
	}
	return y.symbol, y.rigid
}

func (x *graph) Arg(node, n int) int {
	x.asked = append(x.asked, "arg "+strconv.Itoa(node)+" "+strconv.Itoa(n))
	y := x.spots[node]
	if n < 0 || n >= len(y.args) {
		return -1
	}
	return y.args[n]
}

// bad is a list that is no closed term.
func badTerms() []api.Term {
	return []api.Term{
		nil, {}, {add, z}, {add, z, z, z}, {z, z}, {10}, {k, 10}, {k, math.MaxInt}, {k, -100}, {math.MinInt}, chain(k, 1999, z),
		{-1}, {-99}, {k, -1}, {add, z, -1}, {add, -2, z}, {p, add, z, z, s, -99}, {p, -1, add, z, z},
	}
}
