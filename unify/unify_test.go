package unify_test

import (
	"math/rand"
	"slices"
	"testing"

	"ropewalk/api"
	"ropewalk/sig"
	"ropewalk/term"
	"ropewalk/unify"
)

// question is two terms, and what is asked for of them.
type question struct {
	what       string
	a, b, want api.Term
	e          api.Errno
}

// P6.1: the chapter's examples, and edges.
func TestUnify(t *testing.T) {
	s := signature(t)
	for _, c := range []question{
		{"it would be s of itself", api.Term{2, -1, 0}, api.Term{2, 1, -1, -2}, nil, api.ErrUnifyNone},
		{"two variables", api.Term{-5}, api.Term{-7}, api.Term{-1}, api.OK},
		{"a variable with itself", api.Term{-5}, api.Term{-5}, api.Term{-1}, api.OK},
		{"the last variable with itself", api.Term{-99}, api.Term{-99}, api.Term{-1}, api.OK},
		{"the same number in both", api.Term{2, -3, -3}, api.Term{2, -3, 0}, api.Term{2, 0, 0}, api.OK},
		{"the same number in both, unlike ones", api.Term{2, -3, 1, 0}, api.Term{2, 0, -3}, nil, api.ErrUnifyNone},
		{"the same number crosswise", api.Term{2, -1, -2}, api.Term{2, -2, -1}, api.Term{2, -1, -1}, api.OK},
		{"the same number, one within the other", api.Term{-1}, api.Term{1, -1}, nil, api.ErrUnifyNone},
		{"the other way", api.Term{1, -1}, api.Term{-1}, nil, api.ErrUnifyNone},
		{"itself within, below the root", api.Term{1, -1}, api.Term{1, 1, -1}, nil, api.ErrUnifyNone},
		{"itself within, by another one", api.Term{2, -1, -2}, api.Term{2, 1, -2, -1}, nil, api.ErrUnifyNone},
		{"itself within, by two others", api.Term{3, -1, -2, -3}, api.Term{3, 1, -2, -3, 1, -1}, nil, api.ErrUnifyNone},
		{"itself within, known late", api.Term{3, -1, -2, -1}, api.Term{3, 1, -3, -3, -2}, nil, api.ErrUnifyNone},
		{"itself in the last argument", api.Term{-1}, api.Term{6, 0, 0, 0, 0, 0, -1}, nil, api.ErrUnifyNone},
		{"itself within, beside one that is not", api.Term{2, -1, -2}, api.Term{2, 2, 0, 0, 2, -1, 1, -2}, nil, api.ErrUnifyNone},
		{"a ring of variables", api.Term{3, -1, -2, -3}, api.Term{3, -2, -3, -1}, api.Term{3, -1, -1, -1}, api.OK},
		{"a ring of variables, and a symbol", api.Term{4, -1, -2, -3, -1}, api.Term{4, -2, -3, -1, 7}, api.Term{4, 7, 7, 7, 7}, api.OK},
		{"a ring of variables, and two symbols", api.Term{4, -1, -2, -3, -1}, api.Term{4, -2, 0, -1, 7}, nil, api.ErrUnifyNone},
		{"the same variable twice beside itself", api.Term{2, -1, 1, -1}, api.Term{2, -1, 1, -1}, api.Term{2, -1, 1, -1}, api.OK},
		{"two variables that stand for like terms", api.Term{3, -1, -2, -1}, api.Term{3, 1, -3, 1, -4, -2}, api.Term{3, 1, -1, 1, -1, 1, -1}, api.OK},
		{"two variables that stand for unlike terms", api.Term{3, -1, -2, -1}, api.Term{3, 1, -3, 0, -2}, nil, api.ErrUnifyNone},
		{"known later, and put in early", api.Term{2, 1, -1, -1}, api.Term{2, -2, 8, 0, -3}, api.Term{2, 1, 8, 0, -1, 8, 0, -1}, api.OK},
		{"closed, the same", api.Term{2, 0, 1, 7}, api.Term{2, 0, 1, 7}, api.Term{2, 0, 1, 7}, api.OK},
		{"closed, unlike", api.Term{2, 0, 1, 7}, api.Term{2, 0, 1, 0}, nil, api.ErrUnifyNone},
		{"unlike roots of one arity", api.Term{2, -1, -2}, api.Term{8, -1, -2}, nil, api.ErrUnifyNone},
		{"unlike roots", api.Term{1, -1}, api.Term{2, -1, -2}, nil, api.ErrUnifyNone},
		{"a variable, and a closed term", api.Term{-9}, api.Term{2, 0, 7}, api.Term{2, 0, 7}, api.OK},
		{"numbered anew", api.Term{3, -9, -8, -7}, api.Term{3, -9, -6, -8}, api.Term{3, -1, -2, -2}, api.OK},
		{"numbered as they come", api.Term{2, -2, -1}, api.Term{2, -2, -1}, api.Term{2, -1, -2}, api.OK},
		{"six arguments", api.Term{6, -1, -2, -3, -4, -5, -6}, api.Term{6, -6, -5, 0, -1, 1, -7, -2}, api.Term{6, 1, -1, 1, -1, 0, 1, -1, 1, -1, 1, -1}, api.OK},
		{"six arguments, of which each is looked at", api.Term{6, 0, -1, 0, -2, 0, -3}, api.Term{6, -4, 7, -5, 0, -6, 1, -7}, api.Term{6, 0, 7, 0, 0, 0, 1, -1}, api.OK},
	} {
		if u, e := unify.Unify(s, c.a, c.b); !slices.Equal(u, c.want) || e != c.e {
			t.Errorf("%s: Unify(%v, %v): %v, %v", c.what, c.a, c.b, u, e)
		}
		if u, e := unify.Unify(s, c.b, c.a); !slices.Equal(u, c.want) || e != c.e {
			t.Errorf("%s, the other way: Unify(%v, %v): %v, %v", c.what, c.b, c.a, u, e)
		}
	}
}

// P6.2, P6.3: the chapter's examples, and edges; Clash says of each whether there is none.
func TestOverlap(t *testing.T) {
	s := signature(t)
	for _, c := range []question{
		{"the chapter's", api.Term{2, -1, 0}, api.Term{2, 1, -1, -2}, api.Term{2, 1, -1, 0}, api.OK},
		{"twice, unlike ones", api.Term{2, -1, -1}, api.Term{2, 0, 1, -1}, nil, api.ErrUnifyNone},
		{"twice, like ones", api.Term{2, -1, -1}, api.Term{2, -1, 1, -2}, api.Term{2, 1, -1, 1, -1}, api.OK},
		{"s of one, and another symbol", api.Term{1, -1}, api.Term{0}, nil, api.ErrUnifyNone},
		{"the same number, one within the other", api.Term{1, -1}, api.Term{-1}, api.Term{1, -1}, api.OK},
		{"two variables", api.Term{-5}, api.Term{-7}, api.Term{-1}, api.OK},
		{"the same number", api.Term{-5}, api.Term{-5}, api.Term{-1}, api.OK},
		{"the last variable", api.Term{-99}, api.Term{-99}, api.Term{-1}, api.OK},
		{"the same number in unlike places", api.Term{2, -1, -2}, api.Term{2, -2, -1}, api.Term{2, -1, -2}, api.OK},
		{"the same number for unlike terms", api.Term{2, -3, 1, 0}, api.Term{2, 0, -3}, api.Term{2, 0, 1, 0}, api.OK},
		{"one within the other, of unlike terms", api.Term{2, -1, -2}, api.Term{2, 1, -2, -1}, api.Term{2, 1, -1, -2}, api.OK},
		{"a term with itself", api.Term{2, -7, 2, -7, -3}, api.Term{2, -7, 2, -7, -3}, api.Term{2, -1, 2, -1, -2}, api.OK},
		{"itself within", api.Term{2, -1, -1}, api.Term{2, -1, 1, -1}, nil, api.ErrUnifyNone},
		{"itself within, by another one", api.Term{3, -1, -2, -1}, api.Term{3, -1, 1, -1, -2}, api.Term{3, -1, 1, -1, -1}, api.OK},
		{"itself within, by two of each", api.Term{4, -1, -1, -2, -2}, api.Term{4, -1, 1, -2, -2, 1, -1}, nil, api.ErrUnifyNone},
		{"closed, the same", api.Term{8, 0, 7}, api.Term{8, 0, 7}, api.Term{8, 0, 7}, api.OK},
		{"closed, unlike", api.Term{8, 0, 7}, api.Term{8, 7, 7}, nil, api.ErrUnifyNone},
		{"unlike roots of one arity", api.Term{2, -1, -2}, api.Term{8, -1, -2}, nil, api.ErrUnifyNone},
		{"both give something", api.Term{3, 0, -1, -2}, api.Term{3, -1, 7, -2}, api.Term{3, 0, 7, -1}, api.OK},
	} {
		for range 2 {
			if u, e := unify.Overlap(s, c.a, c.b); !slices.Equal(u, c.want) || e != c.e {
				t.Errorf("%s: Overlap(%v, %v): %v, %v", c.what, c.a, c.b, u, e)
			}
			if clash, e := unify.Clash(s, c.a, c.b); clash != (c.e != api.OK) || e != api.OK {
				t.Errorf("%s: Clash(%v, %v): %v, %v", c.what, c.a, c.b, clash, e)
			}
			c.a, c.b = c.b, c.a
		}
	}
}

// agree holds the three calls against what the tests' trees say of two terms; it tells how many of the two there were.
func agree(t *testing.T, s *sig.Sig, x, y tree) int {
	t.Helper()
	a, b := x.list(), y.list()
	found := 0
	check := func(what string, u api.Term, e api.Errno, common tree, is bool) {
		t.Helper()
		if !is {
			if len(u) != 0 || e != api.ErrUnifyNone {
				t.Fatalf("%s(%v, %v): %v, %v, where there is none", what, a, b, u, e)
			}
			return
		}
		found++
		want, wanted := plain(common.list()), api.OK
		if len(want) > api.MaxTerm {
			want, wanted = nil, api.ErrTermLong
		}
		if !slices.Equal(u, want) || e != wanted {
			t.Fatalf("%s(%v, %v): %v, %v, not %v", what, a, b, u, e, want)
		}
	}
	u, e := unify.Unify(s, a, b)
	most, is := common(x, y)
	check("Unify", u, e, most, is)
	u, e = unify.Overlap(s, a, b)
	most, is = common(x, y.apart(api.MaxVariables))
	check("Overlap", u, e, most, is)
	if clash, e := unify.Clash(s, a, b); clash == is || e != api.OK {
		t.Fatalf("Clash(%v, %v): %v, %v", a, b, clash, e)
	}
	return found
}

// P6.1 to P6.3: all small terms with each other, against pairs of trees.
func TestSmall(t *testing.T) {
	s := signature(t)
	l := small(5, 0, -1, -2)
	tried, found := 0, 0
	for _, x := range l {
		for _, y := range l {
			tried++
			found += agree(t, s, x, y)
		}
	}
	if none := 2*tried - found; found < 1000 || none < 1000 {
		t.Errorf("%d have a common instance, %d have none", found, none)
	}
}

// P6.1 to P6.3: terms of all arities, of which two each time come from one that is partly hidden.
func TestTrees(t *testing.T) {
	s := signature(t)
	r := rand.New(rand.NewSource(1))
	tried, found := 0, 0
	for tried < 3000 {
		x := grown(r, 2+r.Intn(3), 4)
		if len(x.list()) > 40 {
			continue
		}
		tried++
		greatest := []int{2, 3, 99}[tried%3]
		y := x.apart(r.Intn(2))
		found += agree(t, s, hidden(r, x, greatest), hidden(r, y, greatest))
	}
	if none := 2*tried - found; found < 1000 || none < 1000 {
		t.Errorf("%d have a common instance, %d have none", found, none)
	}
}

// P6.1, P6.2: the most general one may have 2000 numbers, and 2001 not; Clash asks not.
func TestLong(t *testing.T) {
	s := signature(t)
	pair := func(a, b api.Term) api.Term { return slices.Concat(api.Term{2}, a, b) }
	one, two := api.Term{-1}, api.Term{-2}
	for _, c := range []struct {
		what string
		a, b api.Term
		size int
	}{
		{"1999", pair(chain(999, 0), one), pair(two, chain(999, 0)), 1999},
		{"2000", pair(chain(1000, 0), one), pair(two, chain(999, 0)), 2000},
		{"2000, ending in variables", pair(chain(1000, -3), one), pair(two, chain(999, -4)), 2000},
		{"2001", pair(chain(1000, 0), one), pair(two, chain(1000, 0)), 2001},
		{"2001, ending in variables", pair(chain(1000, -3), one), pair(two, chain(1000, -4)), 2001},
		{"2002", pair(chain(1001, 0), one), pair(two, chain(1000, 0)), 2002},
		{"3997", pair(chain(1998, 0), one), pair(two, chain(1998, 0)), 3997},
		{"twice the same, 1999", pair(one, one), pair(chain(999, 0), two), 1999},
		{"twice the same, 2001", pair(one, one), pair(chain(1000, 0), two), 2001},
		{"as long as a term may be", chain(2000, -1), chain(2000, 0), 2000},
		{"a variable, and as long as a term may be", one, chain(2000, -2), 2000},
		{"what is shared is counted each time", slices.Concat(api.Term{6}, one, one, one, one, one, one), slices.Concat(api.Term{6}, chain(333, 0), two, two, two, two, two), 1999},
		{"what is shared, too often", slices.Concat(api.Term{6}, one, one, one, one, one, one), slices.Concat(api.Term{6}, chain(334, 0), two, two, two, two, two), 2005},
	} {
		e := api.OK
		size := c.size
		if size > 2000 {
			size, e = 0, api.ErrTermLong
		}
		u, e1 := unify.Unify(s, c.a, c.b)
		v, e2 := unify.Overlap(s, c.a, c.b)
		if len(u) != size || e1 != e {
			t.Errorf("%s: Unify: %d numbers, %v", c.what, len(u), e1)
		}
		if len(v) != size || e2 != e {
			t.Errorf("%s: Overlap: %d numbers, %v", c.what, len(v), e2)
		}
		if e == api.OK && (term.Check(s, u) != api.OK || !slices.Equal(u, v)) {
			t.Errorf("%s: what came is no term, or not the same", c.what)
		}
		if clash, e := unify.Clash(s, c.a, c.b); clash || e != api.OK {
			t.Errorf("%s: Clash: %v, %v", c.what, clash, e)
		}
	}
}

// doubling is two rows by which, in both calls, each variable from first on stands for two of the next one, so many times.
func doubling(first, many int) (a, b []api.Term) {
	for n := first; n < first+many; n++ {
		a = append(a, api.Term{-n}, api.Term{-n})
		b = append(b, api.Term{-n}, api.Term{8, -n - 1, -n - 1})
	}
	last := api.Term{-first - many}
	return append(a, last), append(b, last)
}

// P6.1 to P6.3: terms that double, so that no machine could lay them out; what lies in the deepest of them counts all the same.
func TestDoubling(t *testing.T) {
	s := signature(t)
	ask := func(what string, a, b []api.Term, want api.Errno) {
		t.Helper()
		x, y := row(a...), row(b...)
		for range 2 {
			if u, e := unify.Unify(s, x, y); len(u) != 0 || e != want {
				t.Errorf("%s: Unify: %d numbers, %v", what, len(u), e)
			}
			if u, e := unify.Overlap(s, x, y); len(u) != 0 || e != want {
				t.Errorf("%s: Overlap: %d numbers, %v", what, len(u), e)
			}
			if clash, e := unify.Clash(s, x, y); clash != (want == api.ErrUnifyNone) || e != api.OK {
				t.Errorf("%s: Clash: %v, %v", what, clash, e)
			}
			x, y = y, x
		}
	}
	add := func(l []api.Term, others ...api.Term) []api.Term { return slices.Concat(l, others) }
	for _, many := range []int{12, 40, 63, 64, 65, 98} {
		a, b := doubling(1, many)
		last := -1 - many
		ask("alone", a, b, api.ErrTermLong)
		ask("the deepest is closed", add(a, api.Term{last}), add(b, api.Term{0}), api.ErrTermLong)
		ask("the deepest would be two", add(a, api.Term{last}, api.Term{last}), add(b, api.Term{0}, api.Term{7}), api.ErrUnifyNone)
		ask("the deepest would hold the first", add(a, api.Term{last}), add(b, api.Term{1, -1}), api.ErrUnifyNone)
		ask("the deepest would hold itself", add(a, api.Term{last}), add(b, api.Term{1, last}), api.ErrUnifyNone)
	}
	// Two that double, and must be the same: who went through both anew each time would never end.
	a, b := doubling(1, 48)
	c, d := doubling(50, 48)
	ask("both are the same", add(a, add(c, api.Term{-1}, api.Term{-1})...), add(b, add(d, api.Term{-1}, api.Term{-50})...), api.ErrTermLong)
	ask("both are asked first", add([]api.Term{{-1}, {-1}}, add(a, c...)...), add([]api.Term{{-1}, {-50}}, add(b, d...)...), api.ErrTermLong)
	ask("both, their deepest unlike", add(a, add(c, api.Term{-1}, api.Term{-1}, api.Term{-49}, api.Term{-98})...),
		add(b, add(d, api.Term{-1}, api.Term{-50}, api.Term{0}, api.Term{7})...), api.ErrUnifyNone)
	ask("both, one a step deeper", add(a, add(c, api.Term{-1}, api.Term{-1}, api.Term{-49}, api.Term{-98})...),
		add(b, add(d, api.Term{-1}, api.Term{-51}, api.Term{0}, api.Term{0})...), api.ErrUnifyNone)
}

// P6.1, P6.2: terms that double and are no longer than a term may be, against trees.
func TestDoublingShort(t *testing.T) {
	s := signature(t)
	for many := 1; many <= 6; many++ {
		a, b := doubling(1, many)
		x, y := treeOf(row(a...)), treeOf(row(b...))
		if found := agree(t, s, x, y); found != 2 {
			t.Errorf("%d times: %d", many, found)
		}
		agree(t, s, y, x)
	}
}

// P6.1, P6.3: what lies as deep as two terms can make it, and lies in itself, or is too long.
func TestDeep(t *testing.T) {
	s := signature(t)
	a := slices.Concat(api.Term{3, -1, -2}, chain(1997, -1))
	b := slices.Concat(api.Term{3}, chain(999, -2), chain(999, -3), api.Term{-4})
	if u, e := unify.Unify(s, a, b); len(u) != 0 || e != api.ErrTermLong {
		t.Errorf("too long: %d numbers, %v", len(u), e)
	}
	b[len(b)-2] = -1
	if u, e := unify.Unify(s, a, b); len(u) != 0 || e != api.ErrUnifyNone {
		t.Errorf("in itself: %d numbers, %v", len(u), e)
	}
	if clash, e := unify.Clash(s, a, b); clash || e != api.OK {
		t.Errorf("unlike variables: %v, %v", clash, e)
	}
	// Found at the very end of the second term.
	a, b = chain(2000, -1), chain(2000, 0)
	if u, e := unify.Unify(s, a, chain(1999, -1)); len(u) != 0 || e != api.ErrUnifyNone {
		t.Errorf("in itself, at the end: %d numbers, %v", len(u), e)
	}
	if u, e := unify.Overlap(s, a, chain(1999, -1)); !slices.Equal(u, chain(2000, -1)) || e != api.OK {
		t.Errorf("at the end: %d numbers, %v", len(u), e)
	}
	if clash, e := unify.Clash(s, b, chain(2000, 7)); !clash || e != api.OK {
		t.Errorf("unlike at the end: %v, %v", clash, e)
	}
}

// P6.2: more variables than a term may have are numbered on; other calls refuse such a term.
func TestManyVariables(t *testing.T) {
	s := signature(t)
	for _, c := range []struct{ left, right int }{{98, 98}, {98, 1}, {1, 98}, {50, 49}, {50, 50}, {98, 2}} {
		a := slices.Concat(api.Term{2}, bush(1, c.left), api.Term{-99})
		b := slices.Concat(api.Term{2, -99}, bush(1, c.right))
		var want api.Term
		next := 0
		for _, n := range slices.Concat(api.Term{2}, bush(1, c.left), bush(1, c.right)) {
			if n < 0 {
				next--
				n = next
			}
			want = append(want, n)
		}
		for range 2 {
			u, e := unify.Overlap(s, a, b)
			if !slices.Equal(u, want) || e != api.OK {
				t.Errorf("%d and %d: %v, %v", c.left, c.right, u, e)
			}
			refused := api.OK
			if c.left+c.right > api.MaxVariables {
				refused = api.ErrTermVariable
			}
			if e := term.Check(s, u); e != refused {
				t.Errorf("%d and %d: Check: %v", c.left, c.right, e)
			}
			if _, e := unify.Overlap(s, u, a); e != refused {
				t.Errorf("%d and %d: Overlap of it: %v", c.left, c.right, e)
			}
			if clash, e := unify.Clash(s, a, b); clash || e != api.OK {
				t.Errorf("%d and %d: Clash: %v, %v", c.left, c.right, clash, e)
			}
			a, b = b, a
		}
	}
	all := bush(1, 99)
	if u, e := unify.Unify(s, all, all); !slices.Equal(u, all) || e != api.OK {
		t.Errorf("all with themselves: %v, %v", u, e)
	}
	if u, e := unify.Overlap(s, all, all); !slices.Equal(u, all) || e != api.OK {
		t.Errorf("all with all: %v, %v", u, e)
	}
	if u, e := unify.Unify(s, slices.Concat(api.Term{2}, all, all), slices.Concat(api.Term{2}, all, api.Term{-1})); len(u) != 0 || e != api.ErrUnifyNone {
		t.Errorf("all, and the first as all: %v, %v", u, e)
	}
}

// P6.1 to P6.3, R1, R2: what is wrong with the arguments, in the promises' order; nothing stands beside an error.
func TestErrors(t *testing.T) {
	s := signature(t)
	ask := func(what string, s *sig.Sig, a, b api.Term, want api.Errno) {
		t.Helper()
		if u, e := unify.Unify(s, a, b); len(u) != 0 || e != want {
			t.Errorf("%s: Unify(%.9v, %.9v): %v, %v, not %v", what, a, b, u, e, want)
		}
		if u, e := unify.Overlap(s, a, b); len(u) != 0 || e != want {
			t.Errorf("%s: Overlap(%.9v, %.9v): %v, %v, not %v", what, a, b, u, e, want)
		}
		if clash, e := unify.Clash(s, a, b); clash || e != want {
			t.Errorf("%s: Clash(%.9v, %.9v): %v, %v, not %v", what, a, b, clash, e, want)
		}
	}
	ask("the chapter's", s, api.Term{0, 0}, api.Term{0}, api.ErrTermShape)
	ask("nil", nil, api.Term{0}, api.Term{0}, api.ErrArg)
	ask("nil, and no common instance", nil, api.Term{0}, api.Term{7}, api.ErrArg)
	for _, x := range badTerms() {
		ask("nil, a list with itself", nil, x.t, x.t, api.ErrArg)
		for _, good := range []api.Term{{0}, {-1}, {1, -1}, chain(2000, 0)} {
			ask("nil, the first", nil, x.t, good, api.ErrArg)
			ask("nil, the second", nil, good, x.t, api.ErrArg)
			ask("the first", s, x.t, good, x.e)
			ask("the second", s, good, x.t, x.e)
		}
		for _, y := range badTerms() {
			ask("both", s, x.t, y.t, x.e)
		}
	}
	if clash, e := unify.Clash(s, chain(2001, 0), chain(2001, 0)); clash || e != api.ErrTermLong {
		t.Errorf("too long ones: %v, %v", clash, e)
	}
}
