package unify_test

import (
	"math"
	"math/rand"
	"slices"
	"testing"

	"ropewalk/api"
	"ropewalk/sig"
)

// tree is a term that is not laid out as a list: the tests' own way to say what instances two terms have in common.
type tree struct {
	number int
	kids   []tree
}

// list is the tree in prefix order.
func (x tree) list() api.Term {
	t := api.Term{x.number}
	for _, k := range x.kids {
		t = append(t, k.list()...)
	}
	return t
}

// subs are all subtrees, by their places.
func (x tree) subs() []tree {
	l := []tree{x}
	for _, k := range x.kids {
		l = append(l, k.subs()...)
	}
	return l
}

// with is the tree with others in the places of its variables, where there is one for them.
func (x tree) with(stands map[int]tree) tree {
	if y, ok := stands[-x.number]; ok && x.number < 0 {
		return y
	}
	y := tree{number: x.number}
	for _, k := range x.kids {
		y.kids = append(y.kids, k.with(stands))
	}
	return y
}

func (x tree) is(y tree) bool { return slices.Equal(x.list(), y.list()) }

// has tells whether a variable stands in the tree.
func (x tree) has(variable int) bool { return slices.Contains(x.list(), -variable) }

// apart is the tree with its variables numbered on.
func (x tree) apart(by int) tree {
	y := tree{number: x.number}
	if x.number < 0 {
		y.number -= by
	}
	for _, k := range x.kids {
		y.kids = append(y.kids, k.apart(by))
	}
	return y
}

// plain is a list with its variables numbered as they come, however many there are.
func plain(t api.Term) api.Term {
	met := []int{}
	u := slices.Clone(t)
	for i, n := range u {
		if n >= 0 {
			continue
		}
		if !slices.Contains(met, n) {
			met = append(met, n)
		}
		u[i] = -1 - slices.Index(met, n)
	}
	return u
}

// common is the most general common instance of two trees, or false: pair by pair, each variable put into all that is left as soon as it is known.
func common(a, b tree) (tree, bool) {
	type pair struct{ x, y tree }
	open := []pair{{a, b}}
	for len(open) > 0 {
		x, y := open[0].x, open[0].y
		open = open[1:]
		if x.number >= 0 {
			x, y = y, x
		}
		switch {
		case x.is(y):
		case x.number < 0:
			if y.has(-x.number) {
				return tree{}, false
			}
			stands := map[int]tree{-x.number: y}
			a = a.with(stands)
			for i, p := range open {
				open[i] = pair{p.x.with(stands), p.y.with(stands)}
			}
		case x.number != y.number:
			return tree{}, false
		default:
			for i, k := range x.kids {
				open = append(open, pair{k, y.kids[i]})
			}
		}
	}
	return a, true
}

// instance tells whether x is an instance of the pattern: each variable stands for what is met in its first place.
func instance(pattern, x tree, stands map[int]tree) bool {
	if pattern.number < 0 {
		y, ok := stands[-pattern.number]
		if !ok {
			stands[-pattern.number] = x
			return true
		}
		return y.is(x)
	}
	if pattern.number != x.number {
		return false
	}
	for i, k := range pattern.kids {
		if !instance(k, x.kids[i], stands) {
			return false
		}
	}
	return true
}

func isInstance(pattern, x tree) bool { return instance(pattern, x, make(map[int]tree)) }

// treeOf is the tree of a term.
func treeOf(t api.Term) tree {
	at := 0
	var take func() tree
	take = func() tree {
		x := tree{number: t[at]}
		at++
		if x.number >= 0 {
			for range symbols()[x.number].Arity {
				x.kids = append(x.kids, take())
			}
		}
		return x
	}
	return take()
}

// symbols: of every arity, the first ones z/0, s/1, add/2 as in the chapter.
func symbols() []api.Symbol {
	return []api.Symbol{
		{Name: "z"}, {Name: "s", Arity: 1}, {Name: "add", Arity: 2, Defined: true},
		{Name: "three", Arity: 3}, {Name: "four", Arity: 4, Defined: true}, {Name: "five", Arity: 5}, {Name: "six", Arity: 6},
		{Name: "r", Defined: true}, {Name: "pair", Arity: 2},
	}
}

func signature(t *testing.T) *sig.Sig {
	t.Helper()
	s := sig.New()
	for _, x := range symbols() {
		if _, e := s.Add(x); e != api.OK {
			t.Fatal(e)
		}
	}
	return s
}

// small are all trees of z's like, s and add with at most so many numbers, their leaves among those given.
func small(size int, leaves ...int) []tree {
	bySize := make([][]tree, size+1)
	for _, n := range leaves {
		bySize[1] = append(bySize[1], tree{number: n})
	}
	for k := 2; k <= size; k++ {
		for _, x := range bySize[k-1] {
			bySize[k] = append(bySize[k], tree{1, []tree{x}})
		}
		for left := 1; left <= k-2; left++ {
			for _, x := range bySize[left] {
				for _, y := range bySize[k-1-left] {
					bySize[k] = append(bySize[k], tree{2, []tree{x, y}})
				}
			}
		}
	}
	return slices.Concat(bySize...)
}

// grown is a tree that a seed's numbers choose, at most so deep, with variables from 1 to a greatest one.
func grown(r *rand.Rand, depth, greatest int) tree {
	if depth <= 1 || r.Intn(6) == 0 {
		if r.Intn(4) > 0 {
			return tree{number: -1 - r.Intn(greatest)}
		}
		return tree{number: []int{0, 7}[r.Intn(2)]}
	}
	x := tree{number: 1 + r.Intn(6)}
	for range x.number { // the symbols 1 to 6 have as many arguments
		x.kids = append(x.kids, grown(r, depth-1, greatest))
	}
	return x
}

// hidden is a tree with some of its subtrees turned into variables, which may stand in it elsewhere, too, and now and then another leaf.
func hidden(r *rand.Rand, x tree, greatest int) tree {
	if r.Intn(4) == 0 {
		return tree{number: -1 - r.Intn(greatest)}
	}
	y := tree{number: x.number}
	if len(x.kids) == 0 && r.Intn(12) == 0 {
		y.number = 7
	}
	for _, k := range x.kids {
		y.kids = append(y.kids, hidden(r, k, greatest))
	}
	return y
}

// chain is s(s(...(last))) of so many numbers.
func chain(size, last int) api.Term {
	t := make(api.Term, size)
	for i := range t {
		t[i] = 1
	}
	t[size-1] = last
	return t
}

// row is add(first,add(second,...add(last,z))).
func row(parts ...api.Term) api.Term {
	var t api.Term
	for _, p := range parts {
		t = append(append(t, 2), p...)
	}
	return append(t, 0)
}

// bush is a term with all the variables of some numbers, each once.
func bush(from, to int) api.Term {
	var t api.Term
	for n := from; n < to; n++ {
		t = append(t, 8, -n)
	}
	return append(t, -to)
}

// bad is a list that is no term, and what Check says of it.
type bad struct {
	t api.Term
	e api.Errno
}

func badTerms() []bad {
	return []bad{
		{nil, api.ErrTermShape}, {api.Term{}, api.ErrTermShape}, {api.Term{0, 0}, api.ErrTermShape}, {api.Term{2, 0}, api.ErrTermShape},
		{api.Term{9}, api.ErrTermSymbol}, {api.Term{2, 9, -100}, api.ErrTermSymbol}, {api.Term{math.MaxInt}, api.ErrTermSymbol},
		{api.Term{-100}, api.ErrTermVariable}, {api.Term{2, -100, 9}, api.ErrTermVariable}, {api.Term{math.MinInt}, api.ErrTermVariable},
		{chain(2001, 0), api.ErrTermLong}, {chain(2001, -100), api.ErrTermLong},
	}
}
