package term_test

import (
	"math/rand"
	"slices"
	"testing"

	"ropewalk/api"
	"ropewalk/sig"
)

// tree is a term that is not laid out as a list: the tests' own way to say what a place, a path and a subterm is.
type tree struct {
	number int
	kids   []tree
}

// list is the tree in prefix order.
func (x tree) list() api.Term {
	t := api.Term{x.number}
	for _, k := range x.kids {
		t = append(t, k.list()...)
	}
	return t
}

func (x tree) depth() int {
	deepest := 0
	for _, k := range x.kids {
		deepest = max(deepest, k.depth())
	}
	return deepest + 1
}

// spot is a place of a tree: its path, and what stands there.
type spot struct {
	path []int
	sub  tree
}

// spots are all of them, by their places.
func (x tree) spots() []spot {
	l := []spot{{nil, x}}
	for i, k := range x.kids {
		for _, y := range k.spots() {
			l = append(l, spot{append([]int{i}, y.path...), y.sub})
		}
	}
	return l
}

// with is the tree with another one where a path leads.
func (x tree) with(path []int, y tree) tree {
	if len(path) == 0 {
		return y
	}
	kids := slices.Clone(x.kids)
	kids[path[0]] = kids[path[0]].with(path[1:], y)
	return tree{x.number, kids}
}

// symbols: of every arity, the first one z/0, then s/1, add/2 as in the chapter.
func symbols() []api.Symbol {
	return []api.Symbol{
		{Name: "z"}, {Name: "s", Arity: 1}, {Name: "add", Arity: 2, Defined: true},
		{Name: "three", Arity: 3}, {Name: "four", Arity: 4, Defined: true}, {Name: "five", Arity: 5}, {Name: "six", Arity: 6},
		{Name: "r", Defined: true},
	}
}

func signature(t *testing.T, l []api.Symbol) *sig.Sig {
	t.Helper()
	s := sig.New()
	for _, x := range l {
		if _, e := s.Add(x); e != api.OK {
			t.Fatalf("Add %v: %v", x, e)
		}
	}
	return s
}

// grown is a tree that a seed's numbers choose, at most so deep.
func grown(r *rand.Rand, depth int) tree {
	if depth <= 1 || r.Intn(6) == 0 {
		if r.Intn(2) == 0 {
			return tree{number: -1 - r.Intn(99)}
		}
		return tree{number: []int{0, 7}[r.Intn(2)]}
	}
	x := tree{number: 1 + r.Intn(6)}
	for range x.number { // the symbols 1 to 6 have as many arguments
		x.kids = append(x.kids, grown(r, depth-1))
	}
	return x
}

// grove is some trees of all shapes whose terms aren't too long.
func grove() []tree {
	r := rand.New(rand.NewSource(1))
	l := []tree{{number: 0}, {number: -1}, {number: -99}, {number: 7}}
	for len(l) < 120 {
		x := grown(r, 1+r.Intn(6))
		if n := len(x.list()); n <= 250 {
			l = append(l, x)
		}
	}
	return l
}

// chain is s(s(...(last))) of so many numbers.
func chain(size, last int) api.Term {
	t := make(api.Term, size)
	for i := range t {
		t[i] = 1
	}
	t[size-1] = last
	return t
}

// comb is add(add(...(z,z),...z),z) of so many numbers, which must be odd.
func comb(size int) api.Term {
	t := make(api.Term, size)
	for i := range size / 2 {
		t[i] = 2
	}
	return t
}
