package match_test

import (
	"math"
	"slices"
	"testing"

	"ropewalk/api"
	"ropewalk/match"
	"ropewalk/sig"
	"ropewalk/term"
)

// P5.1: the chapter's examples, and edges.
func TestMatch(t *testing.T) {
	s := signature(t)
	for _, c := range []struct {
		what       string
		pattern, t api.Term
		at         int
		want       []api.Bind
		fits       bool
	}{
		{"two variables", api.Term{2, -1, -2}, api.Term{2, 1, 0, -1}, 0, binds(bind(1, 1, 0), bind(2, -1)), true},
		{"by rising numbers", api.Term{2, -9, -3}, api.Term{2, 1, 0, 0}, 0, binds(bind(3, 0), bind(9, 1, 0)), true},
		{"twice, the same", api.Term{2, -1, -1}, api.Term{2, 0, 0}, 0, binds(bind(1, 0)), true},
		{"twice, unlike ones", api.Term{2, -1, -1}, api.Term{2, 0, -1}, 0, nil, false},
		{"twice, unlike, the other way", api.Term{2, -1, -1}, api.Term{2, -1, 0}, 0, nil, false},
		{"twice, one the beginning of the other", api.Term{2, -1, -1}, api.Term{2, 1, 0, 1, 1, 0}, 0, nil, false},
		{"twice, unlike variables", api.Term{2, -1, -1}, api.Term{2, -1, -2}, 0, nil, false},
		{"twice, the same variable", api.Term{2, -1, -1}, api.Term{2, -2, -2}, 0, binds(bind(1, -2)), true},
		{"twice, great ones", api.Term{2, -4, -4}, api.Term{2, 2, 1, -4, 0, 2, 1, -4, 0}, 0, binds(bind(4, 2, 1, -4, 0)), true},
		{"thrice, the last unlike", api.Term{3, -1, -1, -1}, api.Term{3, 0, 0, 7}, 0, nil, false},
		{"one within", api.Term{1, -3}, api.Term{2, 1, 0, 0}, 1, binds(bind(3, 0)), true},
		{"the root is looked at no more", api.Term{2, -1, -2}, api.Term{2, 1, 0, 0}, 1, nil, false},
		{"the last place", api.Term{-1}, api.Term{2, 1, 0, -5}, 3, binds(bind(1, -5)), true},
		{"a variable", api.Term{-1}, api.Term{2, 0, 1, 0}, 0, binds(bind(1, 2, 0, 1, 0)), true},
		{"the first variable and the last", api.Term{2, -99, -1}, api.Term{2, -1, -99}, 0, binds(bind(1, -99), bind(99, -1)), true},
		{"no variable: itself", api.Term{2, 0, 1, 0}, api.Term{2, 0, 1, 0}, 0, nil, true},
		{"no variable: another one", api.Term{2, 0, 1, 0}, api.Term{2, 1, 0, 0}, 0, nil, false},
		{"another symbol of the same arity", api.Term{0}, api.Term{7}, 0, nil, false},
		{"a symbol where a variable stands", api.Term{1, 0}, api.Term{1, -1}, 0, nil, false},
		{"a symbol with arguments, where a variable stands", api.Term{1, 1, -1}, api.Term{1, -1}, 0, nil, false},
		{"the term's variable stands for itself alone", api.Term{2, -1, 0}, api.Term{2, 0, -1}, 0, nil, false},
		{"the term's variable is the pattern's", api.Term{2, -1, 1, -1}, api.Term{2, -1, 1, -1}, 0, binds(bind(1, -1)), true},
		{"the term's variables crosswise", api.Term{2, -1, -2}, api.Term{2, -2, -1}, 0, binds(bind(1, -2), bind(2, -1)), true},
		{"itself within itself", api.Term{-1}, api.Term{1, -1}, 0, binds(bind(1, 1, -1)), true},
		{"the pattern is deeper", api.Term{1, 1, -1}, api.Term{1, 0}, 0, nil, false},
		{"six arguments", api.Term{6, -6, -5, 0, -4, 1, -3, -5}, api.Term{6, 0, -1, 0, 1, 7, 1, 2, 0, 0, -1}, 0,
			binds(bind(3, 2, 0, 0), bind(4, 1, 7), bind(5, -1), bind(6, 0)), true},
		{"a failure behind some variables", api.Term{3, -1, -2, 0}, api.Term{3, 0, 0, 7}, 0, nil, false},
	} {
		if l, fits, e := match.Match(s, c.pattern, c.t, c.at); !sameBinds(l, c.want) || fits != c.fits || e != api.OK {
			t.Errorf("%s: Match(%v, %v, %d): %v, %v, %v", c.what, c.pattern, c.t, c.at, l, fits, e)
		}
	}
}

// P5.1: all small patterns and all small terms, at each place, against all that the variables could stand for.
func TestMatchSmall(t *testing.T) {
	s := signature(t)
	patterns, terms := small(5, 0, -1, -2), small(5, 0, -1, -3)
	fitting := 0
	for _, p := range patterns {
		for _, x := range terms {
			u := x.list()
			for at, sub := range x.subs() {
				stands, want := instance(p, sub)
				l, fits, e := match.Match(s, p.list(), u, at)
				if fits != want || e != api.OK || !sameBinds(l, bindsOf(stands)) {
					t.Fatalf("Match(%v, %v, %d): %v, %v, %v, not %v, %v", p.list(), u, at, l, fits, e, bindsOf(stands), want)
				}
				if fits {
					fitting++
				}
			}
		}
	}
	if fitting < 1000 {
		t.Errorf("only %d fit", fitting)
	}
}

// P5.1: terms and patterns of 2000 numbers, and all 99 variables.
func TestMatchGreat(t *testing.T) {
	s := signature(t)
	if l, fits, e := match.Match(s, chain(2000, -7), chain(2000, 0), 0); !sameBinds(l, binds(bind(7, 0))) || !fits || e != api.OK {
		t.Errorf("2000 deep: %v, %v, %v", l, fits, e)
	}
	if l, fits, e := match.Match(s, chain(2000, 0), chain(2000, -7), 0); len(l) != 0 || fits || e != api.OK {
		t.Errorf("2000 deep, no instance: %v, %v, %v", l, fits, e)
	}
	if l, fits, e := match.Match(s, comb(1999, -99), comb(1999, 0), 0); !sameBinds(l, binds(bind(99, 0))) || !fits || e != api.OK {
		t.Errorf("a variable a thousand times: %v, %v, %v", l, fits, e)
	}
	unlike := comb(1999, 0)
	unlike[1998] = 7
	if l, fits, e := match.Match(s, comb(1999, -99), unlike, 0); len(l) != 0 || fits || e != api.OK {
		t.Errorf("a variable a thousand times, the last unlike: %v, %v, %v", l, fits, e)
	}
	if l, fits, e := match.Match(s, api.Term{-1}, chain(2000, 0), 1999); !sameBinds(l, binds(bind(1, 0))) || !fits || e != api.OK {
		t.Errorf("the last place of 2000: %v, %v, %v", l, fits, e)
	}
	pattern, u := comb(197, 0), api.Term{}
	var want []api.Bind
	for n := 99; n >= 1; n-- {
		pattern[197-n] = -n
		want = slices.Insert(want, 0, bind(n, chain(n/10+1, -n)...))
	}
	for _, n := range pattern {
		if n == 2 {
			u = append(u, n)
		} else {
			u = append(u, want[-n-1].Term...)
		}
	}
	if l, fits, e := match.Match(s, pattern, u, 0); !sameBinds(l, want) || !fits || e != api.OK {
		t.Errorf("99 variables: %v, %v, %v", l, fits, e)
	}
}

// bad is a list that is no term, and what Check says of it.
type bad struct {
	t api.Term
	e api.Errno
}

func badTerms() []bad {
	return []bad{
		{nil, api.ErrTermShape}, {api.Term{}, api.ErrTermShape}, {api.Term{0, 0}, api.ErrTermShape}, {api.Term{2, 0}, api.ErrTermShape},
		{api.Term{8}, api.ErrTermSymbol}, {api.Term{2, 8, -100}, api.ErrTermSymbol}, {api.Term{math.MaxInt}, api.ErrTermSymbol},
		{api.Term{-100}, api.ErrTermVariable}, {api.Term{2, -100, 8}, api.ErrTermVariable}, {api.Term{math.MinInt}, api.ErrTermVariable},
		{chain(2001, 0), api.ErrTermLong}, {chain(2001, -100), api.ErrTermLong},
	}
}

// P5.1, R1, R2: what is wrong with Match's arguments, in the promise's order; nothing stands beside an error.
func TestMatchErrors(t *testing.T) {
	s := signature(t)
	ask := func(what string, s *sig.Sig, pattern, u api.Term, at int, want api.Errno) {
		t.Helper()
		if l, fits, e := match.Match(s, pattern, u, at); len(l) != 0 || fits || e != want {
			t.Errorf("%s: Match(%.9v, %.9v, %d): %v, %v, %v, not %v", what, pattern, u, at, l, fits, e, want)
		}
	}
	good := api.Term{1, -1}
	ask("the chapter's", s, api.Term{-1}, api.Term{0, 0}, 0, api.ErrTermShape)
	ask("the chapter's", s, api.Term{-1}, api.Term{0}, 1, api.ErrTermPlace)
	ask("nil", nil, good, good, 0, api.ErrArg)
	ask("nil, and no place", nil, good, good, 2, api.ErrArg)
	for _, x := range badTerms() {
		for _, at := range []int{0, 1, -1, 2001, math.MaxInt, math.MinInt} {
			ask("nil, the pattern", nil, x.t, good, at, api.ErrArg)
			ask("nil, the term", nil, good, x.t, at, api.ErrArg)
			ask("the pattern", s, x.t, good, at, x.e)
			ask("the term", s, good, x.t, at, x.e)
			for _, y := range badTerms() {
				ask("both", s, x.t, y.t, at, x.e)
			}
		}
	}
	for _, u := range []api.Term{{0}, {-1}, {2, 1, 0, -1}, chain(2000, 0)} {
		for _, at := range []int{len(u), len(u) + 1, -1, -len(u), math.MaxInt, math.MinInt} {
			ask("no place", s, good, u, at, api.ErrTermPlace)
		}
		if _, fits, e := match.Match(s, api.Term{-1}, u, len(u)-1); !fits || e != api.OK {
			t.Errorf("the last place of %.9v: %v, %v", u, fits, e)
		}
	}
}

// P5.2: the chapter's examples, and edges.
func TestApply(t *testing.T) {
	s := signature(t)
	for _, c := range []struct {
		what string
		t    api.Term
		l    []api.Bind
		want api.Term
	}{
		{"the chapter's", api.Term{2, -1, -2}, binds(bind(1, 1, -2)), api.Term{2, 1, -2, -2}},
		{"all at once", api.Term{2, -1, -2}, binds(bind(1, -2), bind(2, -1)), api.Term{2, -2, -1}},
		{"all at once, the other order", api.Term{2, -1, -2}, binds(bind(2, -1), bind(1, -2)), api.Term{2, -2, -1}},
		{"what was put in is not looked at again", api.Term{-1}, binds(bind(1, 2, -1, -2), bind(2, 0)), api.Term{2, -1, -2}},
		{"a ring of three", api.Term{3, -1, -2, -3}, binds(bind(1, -2), bind(2, -3), bind(3, -1)), api.Term{3, -2, -3, -1}},
		{"itself", api.Term{1, -1}, binds(bind(1, 1, -1)), api.Term{1, 1, -1}},
		{"no binds", api.Term{2, -1, 1, -99}, nil, api.Term{2, -1, 1, -99}},
		{"an empty list of binds", api.Term{2, -1, 0}, []api.Bind{}, api.Term{2, -1, 0}},
		{"a bind of a variable that does not stand there", api.Term{2, -1, 0}, binds(bind(2, 1, 0)), api.Term{2, -1, 0}},
		{"a closed term", api.Term{2, 0, 7}, binds(bind(1, 1, 0), bind(7, 0)), api.Term{2, 0, 7}},
		{"twice", api.Term{2, -1, -1}, binds(bind(1, 2, 0, -1)), api.Term{2, 2, 0, -1, 2, 0, -1}},
		{"the first variable and the last", api.Term{2, -1, -99}, binds(bind(99, 0), bind(1, 7)), api.Term{2, 7, 0}},
		{"the term is a variable", api.Term{-50}, binds(bind(50, 6, 0, 0, 0, 0, 0, -50)), api.Term{6, 0, 0, 0, 0, 0, -50}},
	} {
		if u, e := match.Apply(s, c.t, c.l); !slices.Equal(u, c.want) || e != api.OK {
			t.Errorf("%s: Apply(%v, %v): %v, %v", c.what, c.t, c.l, u, e)
		}
	}
}

// P5.2: terms of all shapes, against trees in which others are put; with binds in any order, and of some variables alone.
func TestApplyTrees(t *testing.T) {
	s := signature(t)
	others := grove(2, 40, 8)
	for i, x := range grove(1, 150, 8) {
		stands := make(map[int]tree)
		for n := 1; n <= 9; n++ {
			if (i>>(n%4))&1 == 0 {
				stands[n] = others[(i+n*n)%len(others)]
			}
		}
		l := bindsOf(stands)
		if i%2 == 0 {
			slices.Reverse(l)
		}
		want := x.with(stands).list()
		u, e := match.Apply(s, x.list(), l)
		if len(want) > api.MaxTerm {
			if len(u) != 0 || e != api.ErrTermLong {
				t.Errorf("Apply to %v: %d numbers, %v, where %d would come", x.list(), len(u), e, len(want))
			}
		} else if !slices.Equal(u, want) || e != api.OK {
			t.Errorf("Apply(%v, %v): %v, %v, not %v", x.list(), l, u, e, want)
		}
	}
}

// P5.2: 2000 numbers may come of it, 2001 not; what no variable of the term stands for counts nothing.
func TestApplyLong(t *testing.T) {
	s := signature(t)
	for _, c := range []struct {
		what string
		t    api.Term
		l    []api.Bind
		size int
		e    api.Errno
	}{
		{"2000", chain(1001, -1), binds(bind(1, chain(1000, 0)...)), 2000, api.OK},
		{"2001", chain(1002, -1), binds(bind(1, chain(1000, 0)...)), 0, api.ErrTermLong},
		{"2000, as it was", chain(2000, -1), binds(bind(2, 1, 0)), 2000, api.OK},
		{"2000, a variable for another", chain(2000, -1), binds(bind(1, -2)), 2000, api.OK},
		{"2000 and one more", chain(2000, -1), binds(bind(1, 1, 0)), 0, api.ErrTermLong},
		{"2000 for a variable", api.Term{-1}, binds(bind(1, chain(2000, 0)...)), 2000, api.OK},
		{"2000 behind one", api.Term{1, -1}, binds(bind(1, chain(2000, 0)...)), 0, api.ErrTermLong},
		{"two, 2000 together", api.Term{2, -1, -2}, binds(bind(1, chain(1000, 0)...), bind(2, chain(999, 0)...)), 2000, api.OK},
		{"two, 2001 together", api.Term{2, -1, -2}, binds(bind(1, chain(1000, 0)...), bind(2, chain(1000, 0)...)), 0, api.ErrTermLong},
		{"one of them twice, 1999", api.Term{2, -1, -1}, binds(bind(1, chain(999, 0)...)), 1999, api.OK},
		{"one of them twice, 2001", api.Term{2, -1, -1}, binds(bind(1, chain(1000, 0)...)), 0, api.ErrTermLong},
		{"great ones that stand nowhere", api.Term{0}, binds(bind(1, chain(2000, 0)...), bind(2, chain(2000, 0)...)), 1, api.OK},
		{"a thousand times 2000", comb(1999, -1), binds(bind(1, chain(2000, 0)...)), 0, api.ErrTermLong},
	} {
		u, e := match.Apply(s, c.t, c.l)
		if len(u) != c.size || e != c.e {
			t.Errorf("%s: %d numbers, %v", c.what, len(u), e)
		}
		if e == api.OK && term.Check(s, u) != api.OK {
			t.Errorf("%s: what came is no term", c.what)
		}
	}
}

// P5.2, R1, R2: what is wrong with Apply's arguments, in the promise's order; of the binds the first wrong one; nothing stands beside an error.
func TestApplyErrors(t *testing.T) {
	s := signature(t)
	ask := func(what string, s *sig.Sig, u api.Term, l []api.Bind, want api.Errno) {
		t.Helper()
		if v, e := match.Apply(s, u, l); len(v) != 0 || e != want {
			t.Errorf("%s: Apply(%.9v, %.99v): %v, %v, not %v", what, u, l, v, e, want)
		}
	}
	good := api.Term{1, -1}
	ask("nil", nil, good, nil, api.ErrArg)
	ask("nil, and a bind", nil, good, binds(bind(0)), api.ErrArg)
	for _, n := range []int{0, -1, 100, -99, math.MaxInt, math.MinInt} {
		ask("no variable", s, good, binds(bind(n, 0)), api.ErrMatchBind)
		ask("no variable, and no term", s, good, binds(bind(n)), api.ErrMatchBind)
		ask("the second is no variable", s, good, binds(bind(1, 0), bind(n, 0)), api.ErrMatchBind)
		ask("long, and no variable", s, chain(2000, -1), binds(bind(1, 1, 0), bind(n, 0)), api.ErrMatchBind)
	}
	for _, n := range []int{1, 2, 98, 99} {
		if u, e := match.Apply(s, good, binds(bind(n, 0))); len(u) != 2 || e != api.OK {
			t.Errorf("the variable %d: %v, %v", n, u, e)
		}
		ask("twice", s, good, binds(bind(n, 0), bind(n, 0)), api.ErrMatchBind)
		ask("twice, unlike ones", s, good, binds(bind(n, 0), bind(n, 7)), api.ErrMatchBind)
		ask("twice, one between", s, good, binds(bind(n, 0), bind(50, 0), bind(n, 0)), api.ErrMatchBind)
		ask("twice, the second no term", s, good, binds(bind(n, 0), bind(n, 8)), api.ErrMatchBind)
		ask("twice, the first no term", s, good, binds(bind(n, 8), bind(n, 0)), api.ErrTermSymbol)
		ask("twice, of a closed term", s, api.Term{0}, binds(bind(n, 0), bind(n, 0)), api.ErrMatchBind)
	}
	for _, x := range badTerms() {
		ask("nil, the term", nil, x.t, binds(bind(0)), api.ErrArg)
		ask("the term", s, x.t, nil, x.e)
		ask("the term, and a bind", s, x.t, binds(bind(0, 0)), x.e)
		ask("a bind's term", s, good, binds(bind(1, x.t...)), x.e)
		ask("of a variable that stands nowhere", s, good, binds(bind(2, x.t...)), x.e)
		ask("the second bind's term", s, good, binds(bind(2, 0), bind(1, x.t...)), x.e)
		ask("a term, then a variable", s, good, binds(bind(1, x.t...), bind(0, 0)), x.e)
		ask("a variable, then a term", s, good, binds(bind(100, 0), bind(1, x.t...)), api.ErrMatchBind)
		ask("long, and a bind's term", s, chain(2000, -1), binds(bind(1, 1, 0), bind(2, x.t...)), x.e)
		for _, y := range badTerms() {
			ask("the term, and a bind's", s, x.t, binds(bind(1, y.t...)), x.e)
			ask("two binds' terms", s, good, binds(bind(9, x.t...), bind(1, y.t...)), x.e)
		}
	}
	all := make([]api.Bind, 0, 100)
	for n := 99; n >= 1; n-- {
		all = append(all, bind(n, 0))
	}
	if u, e := match.Apply(s, good, all); !slices.Equal(u, api.Term{1, 0}) || e != api.OK {
		t.Errorf("binds of all variables: %v, %v", u, e)
	}
	ask("one more", s, good, append(all, bind(37, 0)), api.ErrMatchBind)
}

// P5.3: the chapter's examples, and edges.
func TestSame(t *testing.T) {
	s := signature(t)
	for _, c := range []struct {
		a, b api.Term
		same bool
	}{
		{api.Term{2, -1, -2}, api.Term{2, -7, -1}, true},
		{api.Term{2, -1, -1}, api.Term{2, -7, -1}, false},
		{api.Term{2, -7, -1}, api.Term{2, -1, -1}, false},
		{api.Term{0}, api.Term{0}, true},
		{api.Term{0}, api.Term{7}, false},
		{api.Term{-1}, api.Term{-99}, true},
		{api.Term{-1}, api.Term{0}, false},
		{api.Term{0}, api.Term{-1}, false},
		{api.Term{2, -1, -2}, api.Term{2, -2, -1}, true},
		{api.Term{2, -1, -2}, api.Term{2, -1, -2}, true},
		{api.Term{2, -1, -1}, api.Term{2, -2, -2}, true},
		{api.Term{2, 0, -1}, api.Term{2, -1, 0}, false},
		{api.Term{3, -1, -2, -1}, api.Term{3, -2, -1, -2}, true},
		{api.Term{3, -1, -2, -1}, api.Term{3, -2, -1, -1}, false},
		{api.Term{1, -1}, api.Term{-1}, false},
		{api.Term{1, 0}, api.Term{1, 1, 0}, false},
		{chain(2000, -1), chain(2000, -2), true},
		{chain(2000, 0), chain(2000, 7), false},
		{chain(2000, 0), chain(1999, 0), false},
		{comb(1999, -1), comb(1999, -99), true},
	} {
		if same, e := match.Same(s, c.a, c.b); same != c.same || e != api.OK {
			t.Errorf("Same(%.9v, %.9v): %v, %v", c.a, c.b, same, e)
		}
	}
}

// P5.3: all pairs of small terms, against all ways to number the variables anew.
func TestSameSmall(t *testing.T) {
	s := signature(t)
	l := small(5, 0, -1, -2, -3)
	unlike := 0
	for _, a := range l {
		for _, b := range l {
			want := alike(a, b)
			if same, e := match.Same(s, a.list(), b.list()); same != want || e != api.OK {
				t.Fatalf("Same(%v, %v): %v, %v, not %v", a.list(), b.list(), same, e, want)
			}
			if want && !a.is(b) {
				unlike++
			}
		}
	}
	if unlike < 100 {
		t.Errorf("only %d pairs with other numbers", unlike)
	}
}

// P5.3, R1, R2: what is wrong with Same's arguments, in the promise's order; false stands beside an error.
func TestSameErrors(t *testing.T) {
	s := signature(t)
	ask := func(what string, s *sig.Sig, a, b api.Term, want api.Errno) {
		t.Helper()
		if same, e := match.Same(s, a, b); same || e != want {
			t.Errorf("%s: Same(%.9v, %.9v): %v, %v, not %v", what, a, b, same, e, want)
		}
	}
	good := api.Term{1, -1}
	ask("nil", nil, good, good, api.ErrArg)
	for _, x := range badTerms() {
		ask("nil, the first", nil, x.t, good, api.ErrArg)
		ask("nil, the second", nil, good, x.t, api.ErrArg)
		ask("the first", s, x.t, good, x.e)
		ask("the second", s, good, x.t, x.e)
		ask("a list with itself", s, x.t, x.t, x.e)
		for _, y := range badTerms() {
			ask("both", s, x.t, y.t, x.e)
		}
	}
}

// P5.4: Apply of what Match tells, to the pattern, is the subterm.
func TestApplyOfMatch(t *testing.T) {
	s := signature(t)
	patterns := append(small(4, 0, -1, -2), grove(3, 60, 5)...)
	fitting := 0
	for _, x := range grove(4, 60, 5) {
		u := x.list()
		for at, sub := range x.subs() {
			for _, p := range patterns {
				l, fits, e := match.Match(s, p.list(), u, at)
				if e != api.OK {
					t.Fatalf("Match(%v, %v, %d): %v", p.list(), u, at, e)
				}
				if !fits {
					continue
				}
				fitting++
				if v, e := match.Apply(s, p.list(), l); !slices.Equal(v, sub.list()) || e != api.OK {
					t.Fatalf("Apply(%v, %v): %v, %v, not %v", p.list(), l, v, e, sub.list())
				}
			}
		}
	}
	if fitting < 1000 {
		t.Errorf("only %d fit", fitting)
	}
}

// P5.4: Match of a pattern with what Apply made of it tells each variable's bind.
func TestMatchOfApply(t *testing.T) {
	s := signature(t)
	others := grove(6, 40, 99)
	tried := 0
	for i, p := range append(small(4, 0, -1, -2), grove(5, 200, 9)...) {
		stands := make(map[int]tree)
		for _, n := range p.variables() {
			stands[n] = others[(i+7*n)%len(others)]
		}
		u, e := match.Apply(s, p.list(), bindsOf(stands))
		if e == api.ErrTermLong {
			continue
		}
		tried++
		if l, fits, e := match.Match(s, p.list(), u, 0); !sameBinds(l, bindsOf(stands)) || !fits || e != api.OK {
			t.Errorf("Match(%v, %v, 0): %v, %v, %v, not %v", p.list(), u, l, fits, e, bindsOf(stands))
		}
	}
	if tried < 200 {
		t.Errorf("only %d were tried", tried)
	}
}
