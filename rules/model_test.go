package rules_test

import (
	"errors"
	"math"
	"math/rand"
	"slices"
	"testing"

	"ropewalk/api"
	"ropewalk/notation"
	"ropewalk/rules"
	"ropewalk/sig"
)

// symbols: the first ones as in the chapter; f is 3, the constructors p and six, the defined r and g are the tests' own.
func symbols() []api.Symbol {
	return []api.Symbol{
		{Name: "z"}, {Name: "s", Arity: 1}, {Name: "add", Arity: 2, Defined: true}, {Name: "f", Arity: 1, Defined: true},
		{Name: "p", Arity: 2}, {Name: "r", Defined: true}, {Name: "six", Arity: 6}, {Name: "g", Arity: 6, Defined: true},
	}
}

func signature(t *testing.T) *sig.Sig {
	t.Helper()
	s := sig.New()
	for _, x := range symbols() {
		if _, e := s.Add(x); e != api.OK {
			t.Fatal(e)
		}
	}
	return s
}

// read are rules that are written out, over the tests' signature.
func read(t *testing.T, text string) []api.Rule {
	t.Helper()
	l, err := notation.Rules(signature(t), text)
	if err != nil {
		t.Fatalf("%s: %v", text, err)
	}
	return l
}

// filled is a store with some rules.
func filled(t *testing.T, l ...api.Rule) *rules.Store {
	t.Helper()
	r := rules.New(signature(t))
	if err := r.Add(l); err != nil {
		t.Fatal(err)
	}
	return r
}

// sample is the chapter's store.
func sample(t *testing.T) *rules.Store {
	t.Helper()
	return filled(t, read(t, "add(z,X) -> X; add(s(X),Y) -> s(add(X,Y))")...)
}

func rule(left, right api.Term) api.Rule { return api.Rule{Left: left, Right: right} }

// chain is s(s(...(last))) of so many numbers, behind a first one.
func chain(first, size, last int) api.Term {
	t := make(api.Term, size)
	for i := range t {
		t[i] = 1
	}
	t[0], t[size-1] = first, last
	return t
}

// apart are so many rules of f, of which no two have an instance in common: f(z) -> z; f(s(z)) -> z; f(s(s(z))) -> z ...
func apart(from, to int) []api.Rule {
	var l []api.Rule
	for n := from; n < to; n++ {
		l = append(l, rule(chain(3, n+2, 0), api.Term{0}))
	}
	return l
}

// verdict is what an error tells. Zero: it is nil.
type verdict struct {
	code, why api.Errno
	at        int
	whyAt     int // of ErrRulesWith
}

// told is the verdict of an error, which must be nil or a Fault as the document has it.
func told(t *testing.T, err error) verdict {
	t.Helper()
	if err == nil {
		return verdict{}
	}
	f, ok := err.(*api.Fault)
	if !ok || f == nil {
		t.Fatalf("%v is no Fault", err)
	}
	v := verdict{code: f.Code, at: f.At}
	if f.Why == nil {
		return v
	}
	if e, ok := f.Why.(api.Errno); ok && f.Code == api.ErrRulesTerm {
		v.why = e
		return v
	}
	g, ok := f.Why.(*api.Fault)
	if !ok || g == nil || f.Code != api.ErrRulesOverlap || g.Why != nil {
		t.Fatalf("%v comes of %v", err, f.Why)
	}
	v.why, v.whyAt = g.Code, g.At
	return v
}

// store is all that a store tells of its rules.
type store struct {
	rules []api.Rule
	of    [][]int
	sig   []api.Symbol
}

// seen is what a store tells, which must be the same by all its calls.
func seen(t *testing.T, r *rules.Store) store {
	t.Helper()
	var x store
	for n, y := range r.All() {
		if n != len(x.rules) {
			t.Fatalf("All tells %d as the %d. one", n, len(x.rules))
		}
		x.rules = append(x.rules, y)
	}
	for n, y := range x.rules {
		if z, e := r.At(n); e != api.OK || !sameRule(y, z) {
			t.Fatalf("At(%d): %v, %v; All tells %v", n, z, e, y)
		}
	}
	if r.Len() != len(x.rules) {
		t.Fatalf("Len %d; All tells %d", r.Len(), len(x.rules))
	}
	for _, y := range r.Sig().All() {
		x.sig = append(x.sig, y)
	}
	for n := range x.sig {
		x.of = append(x.of, r.Of(n))
	}
	return x
}

func sameRule(x, y api.Rule) bool {
	return slices.Equal(x.Left, y.Left) && slices.Equal(x.Right, y.Right)
}

func sameRules(l, m []api.Rule) bool { return slices.EqualFunc(l, m, sameRule) }

func (x store) is(y store) bool {
	return sameRules(x.rules, y.rules) && slices.EqualFunc(x.of, y.of, slices.Equal) && slices.Equal(x.sig, y.sig)
}

// tree is a term that is not laid out as a list: the tests' own way to say what rules must meet.
type tree struct {
	number int
	kids   []tree
}

// list is the tree in prefix order.
func (x tree) list() api.Term {
	t := api.Term{x.number}
	for _, k := range x.kids {
		t = append(t, k.list()...)
	}
	return t
}

// treeOf is the tree of a list, and what its first fault is.
func treeOf(t api.Term) (tree, api.Errno) {
	if len(t) > 2000 {
		return tree{}, api.ErrTermLong
	}
	for _, n := range t {
		if n >= len(symbols()) {
			return tree{}, api.ErrTermSymbol
		}
		if n < -99 {
			return tree{}, api.ErrTermVariable
		}
	}
	at, short := 0, false
	var take func() tree
	take = func() tree {
		if at == len(t) {
			short = true
			return tree{}
		}
		x := tree{number: t[at]}
		at++
		if x.number >= 0 {
			for range symbols()[x.number].Arity {
				x.kids = append(x.kids, take())
			}
		}
		return x
	}
	x := take()
	if short || at < len(t) {
		return tree{}, api.ErrTermShape
	}
	return x, api.OK
}

// count is how many parts of a tree are of a kind.
func (x tree) count(kind func(tree) bool) int {
	n := 0
	if kind(x) {
		n++
	}
	for _, k := range x.kids {
		n += k.count(kind)
	}
	return n
}

func defined(x tree) bool { return x.number >= 0 && symbols()[x.number].Defined }

func is(number int) func(tree) bool { return func(x tree) bool { return x.number == number } }

// meet tells whether two linear trees, of which no variable is the other's, have an instance in common.
func meet(x, y tree) bool {
	if x.number < 0 || y.number < 0 {
		return true
	}
	if x.number != y.number {
		return false
	}
	for i := range x.kids {
		if !meet(x.kids[i], y.kids[i]) {
			return false
		}
	}
	return true
}

// expected is what Check must answer: rule by rule which checks fail; the answer is the least check's, and of that the least rule's.
func expected(own, l []api.Rule) verdict {
	if len(own)+len(l) > 100 {
		return verdict{code: api.ErrRulesMany}
	}
	best := verdict{}
	for n := len(l) - 1; n >= 0; n-- {
		v := alone(l[n])
		if v.code == api.OK {
			v = together(slices.Concat(own, l[:n]), l[n])
		}
		v.at = n
		if v.code != api.OK && (best.code == api.OK || v.code <= best.code) {
			best = v
		}
	}
	return best
}

// alone is the first check that a rule fails by itself.
func alone(x api.Rule) verdict {
	left, e := treeOf(x.Left)
	if e != api.OK {
		return verdict{code: api.ErrRulesTerm, why: e}
	}
	right, e := treeOf(x.Right)
	switch {
	case e != api.OK:
		return verdict{code: api.ErrRulesTerm, why: e}
	case len(x.Left) > 200 || len(x.Right) > 200:
		return verdict{code: api.ErrRulesSide}
	case !defined(left):
		return verdict{code: api.ErrRulesRoot}
	}
	twice, free := false, false
	for n := 1; n <= 99; n++ {
		stands := left.count(is(-n))
		twice = twice || stands > 1
		free = free || stands == 0 && right.count(is(-n)) > 0
	}
	switch {
	case twice:
		return verdict{code: api.ErrRulesLinear}
	case left.count(defined) > 1:
		return verdict{code: api.ErrRulesBelow}
	case free:
		return verdict{code: api.ErrRulesFree}
	}
	return verdict{}
}

// together is the overlap of a rule with the first one ahead that is sound, too. (Where one is not, another check fails first.)
func together(ahead []api.Rule, x api.Rule) verdict {
	left, _ := treeOf(x.Left)
	for n, y := range ahead {
		other, e := treeOf(y.Left)
		if e == api.OK && meet(left, other) {
			return verdict{code: api.ErrRulesOverlap, why: api.ErrRulesWith, whyAt: n}
		}
	}
	return verdict{}
}

// grown is a tree that a seed's numbers choose, at most so deep, of some symbols and of variables from 1 to a greatest one.
func grown(r *rand.Rand, depth, greatest int, among ...int) tree {
	if depth <= 1 || r.Intn(4) == 0 {
		if r.Intn(3) > 0 {
			return tree{number: -1 - r.Intn(greatest)}
		}
		return tree{number: 0}
	}
	x := tree{number: among[r.Intn(len(among))]}
	for range symbols()[x.number].Arity {
		x.kids = append(x.kids, grown(r, depth-1, greatest, among...))
	}
	return x
}

// grownRule is a rule that is often right, and now and then fails one check or some.
func grownRule(r *rand.Rand) api.Rule {
	greatest := 2 + r.Intn(98)
	below := []int{0, 1, 4, 6}
	if r.Intn(8) == 0 {
		below = append(below, 3, 5)
	}
	left := tree{number: []int{2, 3, 3, 5, 7}[r.Intn(5)]}
	if r.Intn(15) == 0 {
		left.number = []int{1, 4}[r.Intn(2)]
	}
	for range symbols()[left.number].Arity {
		left.kids = append(left.kids, grown(r, 1+r.Intn(3), greatest, below...))
	}
	x := rule(left.list(), nil)
	if r.Intn(5) > 0 {
		x.Left = unlike(x.Left)
	}
	x.Right = grown(r, 1+r.Intn(3), 99, 0, 1, 2, 3, 4, 5).list()
	if r.Intn(5) > 0 {
		x.Right = bound(r, x)
	}
	switch r.Intn(40) {
	case 0:
		x.Left = append(x.Left, 0)
	case 1:
		x.Right = x.Right[:len(x.Right)-1]
	case 2:
		x.Right = append(chain(1, 200, 1), x.Right...)
	case 3:
		x.Left[r.Intn(len(x.Left))] = -100
	case 4:
		x.Right[r.Intn(len(x.Right))] = 8
	}
	return x
}

// unlike is a list whose variables are other ones each time.
func unlike(t api.Term) api.Term {
	u := slices.Clone(t)
	last := 0
	for i, n := range u {
		if n < 0 {
			last = last%99 + 1
			u[i] = -last
		}
	}
	return u
}

// bound is a rule's right side with variables of its left side alone.
func bound(r *rand.Rand, x api.Rule) api.Term {
	var among []int
	for _, n := range x.Left {
		if n < 0 {
			among = append(among, n)
		}
	}
	u := slices.Clone(x.Right)
	for i, n := range u {
		if n < 0 {
			u[i] = append(among, 0)[r.Intn(len(among)+1)]
		}
	}
	return u
}

// bad is a list that is no term, and what term.Check says of it.
type bad struct {
	t api.Term
	e api.Errno
}

func badTerms() []bad {
	return []bad{
		{nil, api.ErrTermShape}, {api.Term{}, api.ErrTermShape}, {api.Term{3, 0, 0}, api.ErrTermShape}, {api.Term{2, 0}, api.ErrTermShape},
		{api.Term{8}, api.ErrTermSymbol}, {api.Term{3, 8, -100}, api.ErrTermSymbol}, {api.Term{math.MaxInt}, api.ErrTermSymbol},
		{api.Term{-100}, api.ErrTermVariable}, {api.Term{3, -100, 8}, api.ErrTermVariable}, {api.Term{math.MinInt}, api.ErrTermVariable},
		{chain(3, 2001, 0), api.ErrTermLong}, {chain(3, 2001, -100), api.ErrTermLong},
	}
}

// bears tells whether errors.Is finds just these numbers in an error.
func bears(err error, numbers ...api.Errno) bool {
	for n := range api.Errno(250) {
		if errors.Is(err, n) != slices.Contains(numbers, n) {
			return false
		}
	}
	return true
}
