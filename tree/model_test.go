package tree_test

import (
	"errors"
	"math"
	"math/rand"
	"slices"
	"strconv"
	"strings"
	"testing"

	"ropewalk/api"
	"ropewalk/notation"
	"ropewalk/rules"
	"ropewalk/sig"
)

// symbols: the first ones as in the chapter; those from p on are the tests' own.
func symbols() []api.Symbol {
	return []api.Symbol{
		{Name: "z"}, {Name: "s", Arity: 1}, {Name: "a"},
		{Name: "add", Arity: 2, Defined: true}, {Name: "f", Arity: 3, Defined: true}, {Name: "h", Defined: true},
		{Name: "p", Arity: 2}, {Name: "g", Arity: 6, Defined: true}, {Name: "six", Arity: 6}, {Name: "k", Arity: 1, Defined: true},
	}
}

// The numbers of symbols.
const (
	z = iota
	s
	a
	add
	f
	h
	p
	g
	six
	k
)

func signature(t *testing.T) *sig.Sig {
	t.Helper()
	x := sig.New()
	for _, y := range symbols() {
		if _, e := x.Add(y); e != api.OK {
			t.Fatal(e)
		}
	}
	return x
}

// term is a term that is written out.
func term(t *testing.T, text string) api.Term {
	t.Helper()
	x, err := notation.Term(signature(t), text)
	if err != nil {
		t.Fatalf("%s: %v", text, err)
	}
	return x
}

// filled is a store with rules that are written out.
func filled(t *testing.T, text string) *rules.Store {
	t.Helper()
	l, err := notation.Rules(signature(t), text)
	if err != nil {
		t.Fatalf("%s: %v", text, err)
	}
	return storeOf(t, l)
}

func storeOf(t *testing.T, l []api.Rule) *rules.Store {
	t.Helper()
	r := rules.New(signature(t))
	if err := r.Add(l); err != nil {
		t.Fatal(err)
	}
	return r
}

// Hand-made nodes.
func leaf(rule int) api.Case { return api.Case{Kind: api.Leaf, Rule: rule} }

func fail() api.Case { return api.Case{Kind: api.Fail} }

func branch(path []int, kids ...api.Kid) api.Case {
	return api.Case{Kind: api.Branch, Path: path, Kids: kids}
}

func kid(symbol int, c api.Case) api.Kid { return api.Kid{Symbol: symbol, Case: c} }

// shown is a case tree as a text: a leaf its rule, a fail "fail", a branch its path and its kids, as 0.1{z fail, s 2}. What may not be is "wrong".
func shown(c api.Case) string {
	plain := len(c.Path) == 0 && len(c.Kids) == 0
	switch {
	case c.Kind == api.Leaf && plain:
		return strconv.Itoa(c.Rule)
	case c.Kind == api.Fail && plain && c.Rule == 0:
		return "fail"
	case c.Kind != api.Branch || c.Rule != 0:
		return "wrong"
	}
	var l []string
	for _, x := range c.Kids {
		name := "wrong"
		if x.Symbol >= 0 && x.Symbol < len(symbols()) {
			name = symbols()[x.Symbol].Name
		}
		l = append(l, name+" "+shown(x.Case))
	}
	return notation.PrintPath(c.Path) + "{" + strings.Join(l, ", ") + "}"
}

// verdict is what an error tells. Zero: it is nil.
type verdict struct {
	code, why api.Errno
	at, whyAt int
}

// forked is the verdict of rules that have no case tree.
func forked(symbol, least int) verdict {
	return verdict{api.ErrTreeNone, api.ErrTreeFork, symbol, least}
}

// told is the verdict of an error, which must be nil or a Fault as the document has it.
func told(t *testing.T, err error) verdict {
	t.Helper()
	if err == nil {
		return verdict{}
	}
	x, ok := err.(*api.Fault)
	if !ok || x == nil {
		t.Fatalf("%v is no Fault", err)
	}
	v := verdict{code: x.Code, at: x.At}
	if x.Why == nil {
		return v
	}
	y, ok := x.Why.(*api.Fault)
	if !ok || y == nil || y.Why != nil {
		t.Fatalf("%v comes of %v", err, x.Why)
	}
	v.why, v.whyAt = y.Code, y.At
	return v
}

// bears tells whether errors.Is finds just these numbers in an error.
func bears(err error, numbers ...api.Errno) bool {
	for n := range api.Errno(250) {
		if errors.Is(err, n) != slices.Contains(numbers, n) {
			return false
		}
	}
	return true
}

// plant is a term that is not laid out as a list: the tests' own way to say what a case tree is.
type plant struct {
	number int
	kids   []plant
}

func (x plant) list() api.Term {
	t := api.Term{x.number}
	for _, y := range x.kids {
		t = append(t, y.list()...)
	}
	return t
}

// plantOf is the plant of a list that is a term.
func plantOf(t api.Term) plant {
	at := 0
	var take func() plant
	take = func() plant {
		x := plant{number: t[at]}
		at++
		if x.number >= 0 {
			for range symbols()[x.number].Arity {
				x.kids = append(x.kids, take())
			}
		}
		return x
	}
	return take()
}

// open is a symbol with variables as arguments.
func open(symbol int) plant {
	x := plant{number: symbol}
	for range symbols()[symbol].Arity {
		x.kids = append(x.kids, plant{number: -1})
	}
	return x
}

// along is what a path leads to, if it leads anywhere.
func (x plant) along(path []int) (plant, bool) {
	for _, n := range path {
		if n < 0 || n >= len(x.kids) {
			return plant{}, false
		}
		x = x.kids[n]
	}
	return x, true
}

// with is a plant that has another one where a path leads.
func (x plant) with(path []int, y plant) plant {
	if len(path) == 0 {
		return y
	}
	x.kids = slices.Clone(x.kids)
	x.kids[path[0]] = x.kids[path[0]].with(path[1:], y)
	return x
}

// paths are the paths to all places, in prefix order.
func (x plant) paths() [][]int {
	l := [][]int{{}}
	for n, y := range x.kids {
		for _, path := range y.paths() {
			l = append(l, append([]int{n}, path...))
		}
	}
	return l
}

// isOf tells whether a plant is an instance of a linear pattern.
func (x plant) isOf(pattern plant) bool {
	if pattern.number < 0 {
		return true
	}
	if x.number != pattern.number {
		return false
	}
	for n := range x.kids {
		if !x.kids[n].isOf(pattern.kids[n]) {
			return false
		}
	}
	return true
}

// lefts are left sides, by the numbers of their rules.
type lefts map[int]plant

func leftsOf(r *rules.Store) lefts {
	l := lefts{}
	for n, x := range r.All() {
		l[n] = plantOf(x.Left)
	}
	return l
}

// of are the numbers of those that are instances of a pattern, rising.
func (l lefts) of(pattern plant) []int {
	var numbers []int
	for n, x := range l {
		if x.isOf(pattern) {
			numbers = append(numbers, n)
		}
	}
	slices.Sort(numbers)
	return numbers
}

// tree is the case tree from a pattern on, word by word as the chapter has it; or the least rule of the first node that forks, and false.
func (l lefts) tree(pattern plant) (api.Case, int, bool) {
	own := l.of(pattern)
	if len(own) == 0 {
		return fail(), 0, true
	}
	for _, path := range pattern.paths() {
		if l.parts(pattern, own, path) {
			return l.branch(pattern, own, path)
		}
	}
	if len(own) == 1 {
		return leaf(own[0]), 0, true
	}
	return api.Case{}, own[0], false
}

// parts tells whether a variable stands in the pattern where a path leads, and constructors in all the rules.
func (l lefts) parts(pattern plant, own []int, path []int) bool {
	if x, _ := pattern.along(path); x.number >= 0 {
		return false
	}
	for _, n := range own {
		if x, _ := l[n].along(path); x.number < 0 {
			return false
		}
	}
	return true
}

func (l lefts) branch(pattern plant, own []int, path []int) (api.Case, int, bool) {
	var heads []int
	for _, n := range own {
		x, _ := l[n].along(path)
		heads = append(heads, x.number)
	}
	slices.Sort(heads)
	c := branch(path)
	for _, symbol := range slices.Compact(heads) {
		below, least, ok := l.tree(pattern.with(path, open(symbol)))
		if !ok {
			return api.Case{}, least, false
		}
		c.Kids = append(c.Kids, kid(symbol, below))
	}
	return c, 0, true
}

// walked is what a walk through any Case comes to, told by a plant.
func walked(c api.Case, x plant, at int) (api.Found, api.Errno) {
	switch c.Kind {
	case api.Leaf:
		return api.Found{Kind: api.Fits, Rule: c.Rule}, api.OK
	case api.Branch:
	default:
		return api.Found{Kind: api.Rigid}, api.OK
	}
	y, ok := x.along(c.Path)
	if !ok {
		return api.Found{}, api.ErrTermPath
	}
	if symbols()[y.number].Defined {
		return api.Found{Kind: api.Demand, Path: c.Path, Node: at + before(x, c.Path)}, api.OK
	}
	n := slices.IndexFunc(c.Kids, func(k api.Kid) bool { return k.Symbol == y.number })
	if n < 0 {
		return api.Found{Kind: api.Rigid}, api.OK
	}
	return walked(c.Kids[n].Case, x, at)
}

// before is how many places stand ahead of the one to which a path leads.
func before(x plant, path []int) int {
	return slices.IndexFunc(x.paths(), func(other []int) bool { return slices.Equal(path, other) })
}

func sameFound(x, y api.Found) bool {
	return x.Kind == y.Kind && x.Rule == y.Rule && slices.Equal(x.Path, y.Path) && x.Node == y.Node
}

// grown is a plant that a seed's numbers choose, at most so deep; its leaves are among the last ones.
func grown(r *rand.Rand, depth int, inner, last []int) plant {
	if depth <= 1 || r.Intn(3) == 0 {
		return plant{number: last[r.Intn(len(last))]}
	}
	x := plant{number: inner[r.Intn(len(inner))]}
	for range symbols()[x.number].Arity {
		x.kids = append(x.kids, grown(r, depth-1, inner, last))
	}
	return x
}

// closed is a closed plant whose root is a symbol.
func closed(r *rand.Rand, symbol, depth int) plant {
	x := open(symbol)
	for n := range x.kids {
		x.kids[n] = grown(r, depth, []int{s, s, p, p, add, f, k}, []int{z, z, z, a, a, h})
	}
	return x
}

// rule is one with a left side whose variables are unlike, and a right side that nobody looks at.
func rule(left plant) api.Rule {
	t := left.list()
	last := 0
	for i, n := range t {
		if n < 0 {
			last++
			t[i] = -last
		}
	}
	return api.Rule{Left: t, Right: api.Term{z}}
}

// scattered is a store of rules of a symbol that a seed's numbers choose, each taken if no other overlaps it: often they fork.
func scattered(t *testing.T, r *rand.Rand, symbol, tries int) *rules.Store {
	x := storeOf(t, nil)
	for range tries {
		left := open(symbol)
		for n := range left.kids {
			left.kids[n] = grown(r, 1+r.Intn(3), []int{s, p}, []int{-1, -1, z, a})
		}
		x.Add([]api.Rule{rule(left)})
	}
	return x
}

// cleft is a store of rules of a symbol that come of parting a pattern again and again, in any order: mostly they do not fork.
func cleft(t *testing.T, r *rand.Rand, symbol, times int) *rules.Store {
	l := []plant{open(symbol)}
	for range times {
		n := r.Intn(len(l))
		x := l[n]
		var paths [][]int
		for _, path := range x.paths() {
			if y, _ := x.along(path); y.number < 0 {
				paths = append(paths, path)
			}
		}
		if len(paths) == 0 {
			continue
		}
		path := paths[r.Intn(len(paths))]
		l = slices.Delete(l, n, n+1)
		for _, head := range []int{z, s, a, p} {
			if r.Intn(4) > 0 || len(l) == 0 {
				l = append(l, x.with(path, open(head)))
			}
		}
	}
	r.Shuffle(len(l), func(i, j int) { l[i], l[j] = l[j], l[i] })
	var list []api.Rule
	for _, x := range l {
		list = append(list, rule(x))
	}
	return storeOf(t, list)
}

// chain is a number, so many s behind it, and a last number.
func chain(first, times, last int) api.Term {
	return append(append(api.Term{first}, slices.Repeat([]int{s}, times)...), last)
}

// apart are so many rules of k, of which no two have an instance in common: k(z) -> z; k(s(z)) -> z; k(s(s(z))) -> z ...
func apart(many int) []api.Rule {
	var l []api.Rule
	for n := range many {
		l = append(l, api.Rule{Left: chain(k, n, z), Right: api.Term{z}})
	}
	return l
}

// deep is a branch by a path so many times, one beneath the other, always for s, and a leaf at last.
func deep(path []int, times int) api.Case {
	c := leaf(7)
	for range times {
		c = branch(path, kid(s, c))
	}
	return c
}

// bad is a list that is no term, and what term.Check says of it.
type bad struct {
	t api.Term
	e api.Errno
}

func badTerms() []bad {
	return []bad{
		{nil, api.ErrTermShape}, {api.Term{}, api.ErrTermShape}, {api.Term{add, z}, api.ErrTermShape}, {api.Term{add, z, z, z}, api.ErrTermShape},
		{api.Term{10}, api.ErrTermSymbol}, {api.Term{k, 10, -100}, api.ErrTermSymbol}, {api.Term{math.MaxInt}, api.ErrTermSymbol},
		{api.Term{-100}, api.ErrTermVariable}, {api.Term{k, -100, 10}, api.ErrTermVariable}, {api.Term{math.MinInt}, api.ErrTermVariable},
		{chain(k, 1999, z), api.ErrTermLong}, {chain(k, 1999, -100), api.ErrTermLong},
		{api.Term{add, -1}, api.ErrTermShape}, {api.Term{add, -1, 10}, api.ErrTermSymbol},
	}
}
