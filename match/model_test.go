package match_test

import (
	"math/rand"
	"slices"
	"testing"

	"ropewalk/api"
	"ropewalk/sig"
)

// tree is a term that is not laid out as a list: the tests' own way to say what an instance is.
type tree struct {
	number int
	kids   []tree
}

// list is the tree in prefix order.
func (x tree) list() api.Term {
	t := api.Term{x.number}
	for _, k := range x.kids {
		t = append(t, k.list()...)
	}
	return t
}

// subs are all subtrees, by their places.
func (x tree) subs() []tree {
	l := []tree{x}
	for _, k := range x.kids {
		l = append(l, k.subs()...)
	}
	return l
}

// variables are those of the tree, by rising numbers.
func (x tree) variables() []int {
	var l []int
	for _, y := range x.subs() {
		if y.number < 0 {
			l = append(l, -y.number)
		}
	}
	slices.Sort(l)
	return slices.Compact(l)
}

// with is the tree with others in the places of its variables, where there is one for them.
func (x tree) with(stands map[int]tree) tree {
	if y, ok := stands[-x.number]; ok && x.number < 0 {
		return y
	}
	y := tree{number: x.number}
	for _, k := range x.kids {
		y.kids = append(y.kids, k.with(stands))
	}
	return y
}

func (x tree) is(y tree) bool { return slices.Equal(x.list(), y.list()) }

// instance tries all that the pattern's variables could stand for (each subtree of x, and nothing else: it stands in x then) till the pattern becomes x.
func instance(pattern, x tree) (map[int]tree, bool) {
	stands := make(map[int]tree)
	var try func(l []int) bool
	try = func(l []int) bool {
		if len(l) == 0 {
			return pattern.with(stands).is(x)
		}
		for _, y := range x.subs() {
			stands[l[0]] = y
			if try(l[1:]) {
				return true
			}
		}
		delete(stands, l[0])
		return false
	}
	if !try(pattern.variables()) {
		return nil, false
	}
	return stands, true
}

// alike tries all ways to give the variables of b numbers, unlike ones to unlike variables, till it becomes a.
func alike(a, b tree) bool {
	stands := make(map[int]tree)
	taken := make(map[int]int)
	var try func(l []int) bool
	try = func(l []int) bool {
		if len(l) == 0 {
			return b.with(stands).is(a)
		}
		for _, n := range a.variables() {
			if taken[n] > 0 {
				continue
			}
			taken[n]++
			stands[l[0]] = tree{number: -n}
			if try(l[1:]) {
				return true
			}
			taken[n]--
		}
		return false
	}
	return try(b.variables())
}

// symbols: of every arity, the first ones z/0, s/1, add/2 as in the chapter.
func symbols() []api.Symbol {
	return []api.Symbol{
		{Name: "z"}, {Name: "s", Arity: 1}, {Name: "add", Arity: 2, Defined: true},
		{Name: "three", Arity: 3}, {Name: "four", Arity: 4, Defined: true}, {Name: "five", Arity: 5}, {Name: "six", Arity: 6},
		{Name: "r", Defined: true},
	}
}

func signature(t *testing.T) *sig.Sig {
	t.Helper()
	s := sig.New()
	for _, x := range symbols() {
		if _, e := s.Add(x); e != api.OK {
			t.Fatalf("Add %v: %v", x, e)
		}
	}
	return s
}

// small are all trees of so many numbers at most, of some leaves, s/1 and add/2.
func small(size int, leaves ...int) []tree {
	bySize := make([][]tree, size+1)
	for _, n := range leaves {
		bySize[1] = append(bySize[1], tree{number: n})
	}
	for k := 2; k <= size; k++ {
		for _, x := range bySize[k-1] {
			bySize[k] = append(bySize[k], tree{1, []tree{x}})
		}
		for left := 1; left < k-1; left++ {
			for _, x := range bySize[left] {
				for _, y := range bySize[k-1-left] {
					bySize[k] = append(bySize[k], tree{2, []tree{x, y}})
				}
			}
		}
	}
	return slices.Concat(bySize...)
}

// grown is a tree that a seed's numbers choose, at most so deep, with variables from 1 to a greatest one.
func grown(r *rand.Rand, depth, greatest int) tree {
	if depth <= 1 || r.Intn(6) == 0 {
		if r.Intn(3) > 0 {
			return tree{number: -1 - r.Intn(greatest)}
		}
		return tree{number: []int{0, 7}[r.Intn(2)]}
	}
	x := tree{number: 1 + r.Intn(6)}
	for range x.number { // the symbols 1 to 6 have as many arguments
		x.kids = append(x.kids, grown(r, depth-1, greatest))
	}
	return x
}

// grove is some trees of all shapes whose terms aren't too long.
func grove(seed int64, many, greatest int) []tree {
	r := rand.New(rand.NewSource(seed))
	var l []tree
	for len(l) < many {
		if x := grown(r, 1+r.Intn(4), greatest); len(x.list()) <= 60 {
			l = append(l, x)
		}
	}
	return l
}

func bind(variable int, t ...int) api.Bind { return api.Bind{Variable: variable, Term: t} }

func binds(l ...api.Bind) []api.Bind { return l }

// bindsOf are those of a map, by rising numbers.
func bindsOf(stands map[int]tree) []api.Bind {
	var l []api.Bind
	for n := range 101 {
		if x, ok := stands[n]; ok {
			l = append(l, bind(n, x.list()...))
		}
	}
	return l
}

func sameBinds(a, b []api.Bind) bool {
	return slices.EqualFunc(a, b, func(x, y api.Bind) bool { return x.Variable == y.Variable && slices.Equal(x.Term, y.Term) })
}

// chain is s(s(...(last))) of so many numbers.
func chain(size, last int) api.Term {
	t := make(api.Term, size)
	for i := range t {
		t[i] = 1
	}
	t[size-1] = last
	return t
}

// comb is add(add(...(leaf,leaf),...leaf),leaf) of so many numbers, which must be odd.
func comb(size, leaf int) api.Term {
	t := make(api.Term, size)
	for i := range t {
		t[i] = leaf
		if i < size/2 {
			t[i] = 2
		}
	}
	return t
}
