package machine_test

import (
	"slices"
	"testing"

	"ropewalk/api"
	"ropewalk/system"
)

// The longest term that the tests look at.
const longest = 400

// resolved is the application that a node is.
func resolved(nodes []api.Node, a int) int {
	for nodes[a].Points {
		a = nodes[a].To
	}
	return a
}

// termOf is the term of a node; nil, if it has more than longest symbols.
func termOf(nodes []api.Node, a int) api.Term {
	var t api.Term
	var write func(a int)
	write = func(a int) {
		if len(t) > longest {
			return
		}
		x := nodes[resolved(nodes, a)]
		t = append(t, x.Symbol)
		for _, b := range x.Args {
			write(b)
		}
	}
	write(a)
	if len(t) > longest {
		return nil
	}
	return t
}

// copiesOf are the places of a node's term at which another one stands.
func copiesOf(nodes []api.Node, a, node int) []int {
	var l []int
	at, node := 0, resolved(nodes, node)
	var visit func(a int)
	visit = func(a int) {
		a = resolved(nodes, a)
		if a == node {
			l = append(l, at)
		}
		at++
		for _, b := range nodes[a].Args {
			visit(b)
		}
	}
	visit(a)
	return l
}

// words are what the document's section 'Words' says of the terms of a system, as it is when they are made: by rules and case trees, not by code.
type words struct {
	symbols []api.Symbol
	rules   []api.Rule
	trees   []api.Case
}

func wordsOf(t testing.TB, y *system.System) words {
	t.Helper()
	var w words
	for n, x := range y.Sig().All() {
		var c api.Case
		if x.Defined {
			var err error
			if c, err = y.Tree(n); err != nil {
				t.Fatal(err)
			}
		}
		w.symbols, w.trees = append(w.symbols, x), append(w.trees, c)
	}
	for _, x := range y.Rules().All() {
		w.rules = append(w.rules, x)
	}
	return w
}

// end is the index behind the subterm at a place.
func (w words) end(t api.Term, at int) int {
	for lacking := 1; lacking > 0; at++ {
		lacking--
		if t[at] >= 0 {
			lacking += w.symbols[t[at]].Arity
		}
	}
	return at
}

// args are the places of the arguments of a place.
func (w words) args(t api.Term, at int) []int {
	var l []int
	next := at + 1
	for range w.symbols[t[at]].Arity {
		l = append(l, next)
		next = w.end(t, next)
	}
	return l
}

// along is the place to which a path leads.
func (w words) along(t api.Term, at int, path []int) int {
	for _, n := range path {
		at = w.args(t, at)[n]
	}
	return at
}

// fits tells whether a left side fits at a place, and where in the term each of its variables stands.
func (w words) fits(left, t api.Term, at int) (map[int]int, bool) {
	binds := map[int]int{}
	for _, n := range left {
		switch {
		case n < 0:
			binds[n] = at
			at = w.end(t, at)
		case t[at] != n:
			return nil, false
		default:
			at++
		}
	}
	return binds, true
}

// ruleAt is the rule that fits at a place; -1, if none does.
func (w words) ruleAt(t api.Term, at int) int {
	for n, x := range w.rules {
		if _, ok := w.fits(x.Left, t, at); ok {
			return n
		}
	}
	return -1
}

// redexes are the places at which a rule fits.
func (w words) redexes(t api.Term) []int {
	var l []int
	for at := range t {
		if w.ruleAt(t, at) >= 0 {
			l = append(l, at)
		}
	}
	return l
}

func (w words) isNormal(t api.Term) bool { return len(w.redexes(t)) == 0 }

// contracted is the term that comes of contracting a place by a rule; and, of places that are named, their descendants.
func (w words) contracted(t api.Term, at, rule int, named []bool) (api.Term, []bool) {
	binds, _ := w.fits(w.rules[rule].Left, t, at)
	result, names := slices.Clone(t[:at]), slices.Clone(named[:at])
	for _, n := range w.rules[rule].Right {
		if n >= 0 {
			result, names = append(result, n), append(names, false)
			continue
		}
		from := binds[n]
		to := w.end(t, from)
		result, names = append(result, t[from:to]...), append(names, named[from:to]...)
	}
	behind := w.end(t, at)
	return append(result, t[behind:]...), append(names, named[behind:]...)
}

// all is the term that comes of contracting several places, none in another one, each by the same rule.
func (w words) all(t api.Term, places []int, rule int) api.Term {
	for _, at := range slices.Backward(places) {
		t, _ = w.contracted(t, at, rule, make([]bool, len(t)))
	}
	return t
}

// walk goes through a case tree at a place: a rule that fits (Fits), or a place that is demanded (Demand), or it is rigid.
func (w words) walk(c api.Case, t api.Term, at int) api.Found {
	switch c.Kind {
	case api.Leaf:
		return api.Found{Kind: api.Fits, Rule: c.Rule}
	case api.Fail:
		return api.Found{Kind: api.Rigid}
	}
	x := w.along(t, at, c.Path)
	if w.symbols[t[x]].Defined {
		if w.isRigid(t, x) {
			return api.Found{Kind: api.Rigid}
		}
		return api.Found{Kind: api.Demand, Node: x}
	}
	for _, kid := range c.Kids {
		if kid.Symbol == t[x] {
			return w.walk(kid.Case, t, at)
		}
	}
	return api.Found{Kind: api.Rigid}
}

func (w words) isRigid(t api.Term, at int) bool {
	return !w.symbols[t[at]].Defined || w.walk(w.trees[t[at]], t, at).Kind == api.Rigid
}

// needed is the needed place beneath a place; -1, if there is none.
func (w words) needed(t api.Term, at int) int {
	if !w.isRigid(t, at) {
		found := w.walk(w.trees[t[at]], t, at)
		if found.Kind == api.Fits {
			return at
		}
		return w.needed(t, found.Node)
	}
	for _, x := range w.args(t, at) {
		if n := w.needed(t, x); n >= 0 {
			return n
		}
	}
	return -1
}
