package term_test

import (
	"errors"
	"math"
	"slices"
	"testing"

	"ropewalk/api"
	"ropewalk/sig"
	"ropewalk/term"
)

// sample is add(s(z), X1), the chapter's.
func sample() api.Term { return api.Term{2, 1, 0, -1} }

// P2.1: what is a term, and what is none.
func TestCheck(t *testing.T) {
	s := signature(t, symbols())
	for _, c := range []struct {
		what string
		t    api.Term
		e    api.Errno
	}{
		{"the sample", sample(), api.OK},
		{"a symbol", api.Term{0}, api.OK},
		{"the last symbol", api.Term{7}, api.OK},
		{"the first variable", api.Term{-1}, api.OK},
		{"the last variable", api.Term{-99}, api.OK},
		{"a variable twice", api.Term{2, -3, -3}, api.OK},
		{"six arguments", api.Term{6, 0, -1, 0, -2, 7, 1, 0}, api.OK},
		{"nil", nil, api.ErrTermShape},
		{"empty", api.Term{}, api.ErrTermShape},
		{"no argument", api.Term{1}, api.ErrTermShape},
		{"an argument lacks", api.Term{2, 1, 0}, api.ErrTermShape},
		{"an inner argument lacks", api.Term{2, 0, 1}, api.ErrTermShape},
		{"one of six lacks", api.Term{6, 0, 0, 0, 0, 0}, api.ErrTermShape},
		{"one too many", api.Term{0, 0}, api.ErrTermShape},
		{"one behind a variable", api.Term{-1, 0}, api.ErrTermShape},
		{"a variable behind", api.Term{2, 0, 0, -1}, api.ErrTermShape},
		{"a whole term behind", api.Term{2, 0, 0, 2, 0, 0}, api.ErrTermShape},
		{"an unfinished one behind", api.Term{0, 2}, api.ErrTermShape},
		{"the symbol behind the last", api.Term{8}, api.ErrTermSymbol},
		{"a great number", api.Term{math.MaxInt}, api.ErrTermSymbol},
		{"the variable 100", api.Term{-100}, api.ErrTermVariable},
		{"a small number", api.Term{math.MinInt}, api.ErrTermVariable},
		{"one more than that", api.Term{math.MinInt + 1}, api.ErrTermVariable},
	} {
		if e := term.Check(s, c.t); e != c.e {
			t.Errorf("%s: Check %v: %v", c.what, c.t, e)
		}
	}
}

// P2.1: a term of one signature may be none of another.
func TestCheckAsksTheSignature(t *testing.T) {
	few := signature(t, symbols()[:2])
	if e := term.Check(few, sample()); e != api.ErrTermSymbol {
		t.Errorf("a symbol that is not there: %v", e)
	}
	if e := term.Check(few, api.Term{1, 0}); e != api.OK {
		t.Errorf("s(z): %v", e)
	}
	if e := term.Check(sig.New(), api.Term{0}); e != api.ErrTermSymbol {
		t.Errorf("no symbols: %v", e)
	}
	for _, s := range []*sig.Sig{sig.New(), {}} {
		if e := term.Check(s, api.Term{-1}); e != api.OK {
			t.Errorf("a variable, of no symbols: %v", e)
		}
	}
	few.Add(api.Symbol{Name: "one", Arity: 1})
	if e := term.Check(few, sample()); e != api.ErrTermShape {
		t.Errorf("a symbol of another arity: %v", e)
	}
}

// P2.1: 2000 numbers, and 2001.
func TestCheckLong(t *testing.T) {
	s := signature(t, symbols())
	for _, c := range []struct {
		what string
		t    api.Term
		e    api.Errno
	}{
		{"2000", chain(2000, 0), api.OK},
		{"2000 with a variable", chain(2000, -99), api.OK},
		{"2001", chain(2001, 0), api.ErrTermLong},
		{"1999, branching", comb(1999), api.OK},
		{"2001, branching", comb(2001), api.ErrTermLong},
		{"2000 that are no term", make(api.Term, 2000), api.ErrTermShape},
		{"2000, unfinished", chain(2000, 1), api.ErrTermShape},
		{"20000", make(api.Term, 20000), api.ErrTermLong},
	} {
		if e := term.Check(s, c.t); e != c.e {
			t.Errorf("%s: %v", c.what, e)
		}
	}
}

// P2.1, R2: where several errors apply, the first one that the promise names.
func TestCheckErrorsInOrder(t *testing.T) {
	s := signature(t, symbols())
	long := chain(2001, 99)
	long[0] = -100
	for _, c := range []struct {
		what string
		s    *sig.Sig
		t    api.Term
		e    api.Errno
	}{
		{"nil, long, variable, symbol", nil, long, api.ErrArg},
		{"nil, shape", nil, nil, api.ErrArg},
		{"long, variable, symbol", s, long, api.ErrTermLong},
		{"symbol, then variable", s, api.Term{2, 1, 8, -100}, api.ErrTermSymbol},
		{"variable, then symbol", s, api.Term{2, -100, 8}, api.ErrTermVariable},
		{"symbol, shape", s, api.Term{2, 1, 8, 9}, api.ErrTermSymbol},
		{"variable behind the end", s, api.Term{0, 0, -100}, api.ErrTermVariable},
		{"symbol behind the end", s, api.Term{0, 8}, api.ErrTermSymbol},
		{"variable, unfinished", s, api.Term{2, -100}, api.ErrTermVariable},
	} {
		if e := term.Check(c.s, c.t); e != c.e {
			t.Errorf("%s: %v", c.what, e)
		}
	}
}

// call is one that asks of a term, and of a place: what it answers beside its error must be nothing.
type call struct {
	name   string
	placed bool
	ask    func(s *sig.Sig, t api.Term, at int) (bool, api.Errno)
}

func calls() []call {
	return []call{
		{"End", true, func(s *sig.Sig, t api.Term, at int) (bool, api.Errno) {
			n, e := term.End(s, t, at)
			return n == 0, e
		}},
		{"Args", true, func(s *sig.Sig, t api.Term, at int) (bool, api.Errno) {
			l, e := term.Args(s, t, at)
			return len(l) == 0, e
		}},
		{"Sub", true, func(s *sig.Sig, t api.Term, at int) (bool, api.Errno) {
			u, e := term.Sub(s, t, at)
			return len(u) == 0, e
		}},
		{"Put", true, func(s *sig.Sig, t api.Term, at int) (bool, api.Errno) {
			u, e := term.Put(s, t, at, api.Term{9, 9, -100})
			return len(u) == 0, e
		}},
		{"Path", true, func(s *sig.Sig, t api.Term, at int) (bool, api.Errno) {
			l, e := term.Path(s, t, at)
			return len(l) == 0, e
		}},
		{"Place", false, func(s *sig.Sig, t api.Term, at int) (bool, api.Errno) {
			n, e := term.Place(s, t, 9, -1)
			return n == 0, e
		}},
		{"Depth", false, func(s *sig.Sig, t api.Term, at int) (bool, api.Errno) {
			n, e := term.Depth(s, t)
			return n == 0, e
		}},
	}
}

// P2.2 to P2.5, R1, R2: ahead of all else each call answers Check's error, whatever the place, the path and the other term are; nothing stands beside an error.
func TestCheckComesFirst(t *testing.T) {
	s := signature(t, symbols())
	for _, bad := range []struct {
		s *sig.Sig
		t api.Term
		e api.Errno
	}{
		{nil, sample(), api.ErrArg},
		{nil, nil, api.ErrArg},
		{nil, chain(2001, 0), api.ErrArg},
		{s, chain(2001, 0), api.ErrTermLong},
		{s, api.Term{2, 1, 8, 9}, api.ErrTermSymbol},
		{s, api.Term{2, -100, 8}, api.ErrTermVariable},
		{s, api.Term{2, 1, 0}, api.ErrTermShape},
		{s, api.Term{0, 0}, api.ErrTermShape},
		{s, nil, api.ErrTermShape},
	} {
		for _, c := range calls() {
			for _, at := range []int{0, 1, -1, 5000, math.MaxInt, math.MinInt} {
				if none, e := c.ask(bad.s, bad.t, at); !none || e != bad.e {
					t.Errorf("%s of %.12v at %d: %v, not %v; nothing beside it: %v", c.name, bad.t, at, e, bad.e, none)
				}
			}
		}
	}
}

// P2.2 to P2.4: places that a term has not: the one behind its last among them, and those below 0.
func TestNoPlace(t *testing.T) {
	s := signature(t, symbols())
	for _, u := range []api.Term{sample(), {0}, {-1}, chain(2000, 0)} {
		for _, c := range calls() {
			if !c.placed {
				continue
			}
			for _, at := range []int{len(u), len(u) + 1, -1, -len(u), math.MaxInt, math.MinInt} {
				if none, e := c.ask(s, u, at); !none || e != api.ErrTermPlace {
					t.Errorf("%s of %.12v at %d: %v; nothing beside it: %v", c.name, u, at, e, none)
				}
			}
		}
	}
}

// P2.2: the chapter's examples, and the last place.
func TestParts(t *testing.T) {
	s := signature(t, symbols())
	for at, want := range []struct {
		end  int
		args []int
		sub  api.Term
	}{{4, []int{1, 3}, sample()}, {3, []int{2}, api.Term{1, 0}}, {3, nil, api.Term{0}}, {4, nil, api.Term{-1}}} {
		if n, e := term.End(s, sample(), at); n != want.end || e != api.OK {
			t.Errorf("End %d: %d, %v", at, n, e)
		}
		if l, e := term.Args(s, sample(), at); !slices.Equal(l, want.args) || e != api.OK {
			t.Errorf("Args %d: %v, %v", at, l, e)
		}
		if u, e := term.Sub(s, sample(), at); !slices.Equal(u, want.sub) || e != api.OK {
			t.Errorf("Sub %d: %v, %v", at, u, e)
		}
	}
}

// P2.2, P2.4, P2.5: at each place of terms of all shapes, against trees that say where things are.
func TestPlacesOfTrees(t *testing.T) {
	s := signature(t, symbols())
	for _, x := range grove() {
		u := x.list()
		if e := term.Check(s, u); e != api.OK {
			t.Fatalf("Check %v: %v", u, e)
		}
		if d, e := term.Depth(s, u); d != x.depth() || e != api.OK {
			t.Errorf("Depth %v: %d, %v, not %d", u, d, e, x.depth())
		}
		for at, y := range x.spots() {
			sub := y.sub.list()
			if n, e := term.End(s, u, at); n != at+len(sub) || e != api.OK {
				t.Errorf("End %v at %d: %d, %v", u, at, n, e)
			}
			if v, e := term.Sub(s, u, at); !slices.Equal(v, sub) || e != api.OK {
				t.Errorf("Sub %v at %d: %v, %v", u, at, v, e)
			}
			var args []int
			next := at + 1
			for _, k := range y.sub.kids {
				args = append(args, next)
				next += len(k.list())
			}
			if l, e := term.Args(s, u, at); !slices.Equal(l, args) || e != api.OK {
				t.Errorf("Args %v at %d: %v, %v, not %v", u, at, l, e, args)
			}
			if p, e := term.Path(s, u, at); !slices.Equal(p, y.path) || e != api.OK {
				t.Errorf("Path %v to %d: %v, %v, not %v", u, at, p, e, y.path)
			}
			if n, e := term.Place(s, u, y.path...); n != at || e != api.OK {
				t.Errorf("Place %v by %v: %d, %v, not %d", u, y.path, n, e, at)
			}
			if n, e := term.Place(s, u, append(y.path, len(y.sub.kids))...); n != 0 || e != api.ErrTermPath {
				t.Errorf("Place %v by %v and beyond: %d, %v", u, y.path, n, e)
			}
		}
	}
}

// P2.3: the chapter's examples; a part put at the root, at the last place, and where a longer and a shorter one stood.
func TestPut(t *testing.T) {
	s := signature(t, symbols())
	for _, c := range []struct {
		at   int
		u, w api.Term
	}{
		{1, api.Term{-5}, api.Term{2, -5, -1}},
		{3, sample(), api.Term{2, 1, 0, 2, 1, 0, -1}},
		{0, api.Term{0}, api.Term{0}},
		{0, sample(), sample()},
		{2, api.Term{-99}, api.Term{2, 1, -99, -1}},
		{1, api.Term{3, 0, -1, 7}, api.Term{2, 3, 0, -1, 7, -1}},
	} {
		if w, e := term.Put(s, sample(), c.at, c.u); !slices.Equal(w, c.w) || e != api.OK {
			t.Errorf("Put %v at %d: %v, %v, not %v", c.u, c.at, w, e, c.w)
		}
	}
}

// P2.3: against trees.
func TestPutIntoTrees(t *testing.T) {
	s := signature(t, symbols())
	l := grove()
	for i, x := range l {
		y := l[(i+7)%len(l)]
		for at, z := range x.spots() {
			want := x.with(z.path, y).list()
			if w, e := term.Put(s, x.list(), at, y.list()); !slices.Equal(w, want) || e != api.OK {
				t.Errorf("Put into %v at %d %v: %v, %v", x.list(), at, y.list(), w, e)
			}
		}
	}
}

// P2.3: what comes of it has 2000 numbers, or 2001, which hangs on how much it takes the place of.
func TestPutLong(t *testing.T) {
	s := signature(t, symbols())
	for _, c := range []struct {
		what string
		t    api.Term
		at   int
		u    api.Term
		size int // 0: too long
	}{
		{"1000 behind 999, which makes 2000", chain(1001, 0), 1000, chain(1000, 0), 2000},
		{"1001 behind 1000", chain(1001, 0), 1000, chain(1001, 0), 0},
		{"2000 at the root", chain(2000, 0), 0, chain(2000, -1), 2000},
		{"2000 at the place 1 of 2000", chain(2000, 0), 1, chain(2000, -1), 0},
		{"1999 at the place 1 of 2000", chain(2000, 0), 1, chain(1999, -1), 2000},
		{"two for the last of 2000", chain(2000, 0), 1999, api.Term{1, 0}, 0},
		{"one for the last of 2000", chain(2000, 0), 1999, api.Term{-1}, 2000},
		{"in front of other arguments", comb(1999), 999, api.Term{1, 0}, 2000},
		{"in front of other arguments, too long", comb(1999), 999, api.Term{2, 0, 0}, 0},
	} {
		w, e := term.Put(s, c.t, c.at, c.u)
		if c.size == 0 && (len(w) != 0 || e != api.ErrTermLong) {
			t.Errorf("%s: %d numbers, %v", c.what, len(w), e)
		}
		if c.size > 0 && (len(w) != c.size || e != api.OK || term.Check(s, w) != api.OK) {
			t.Errorf("%s: %d numbers, %v", c.what, len(w), e)
		}
	}
}

// P2.3, R2: the place's error comes ahead of the other term's, and that ahead of the length of what comes of it.
func TestPutErrorsInOrder(t *testing.T) {
	s := signature(t, symbols())
	for _, c := range []struct {
		what string
		t    api.Term
		at   int
		u    api.Term
		e    api.Errno
	}{
		{"the first term, place, other term", api.Term{8}, 9, api.Term{-100}, api.ErrTermSymbol},
		{"place, other term", sample(), 4, chain(2001, 0), api.ErrTermPlace},
		{"place, length", chain(2000, 0), -1, chain(2000, 0), api.ErrTermPlace},
		{"other term is too long", sample(), 0, chain(2001, 0), api.ErrTermLong},
		{"other term's symbol, length", chain(2000, 0), 1, chain(2000, 8), api.ErrTermSymbol},
		{"other term's variable, length", chain(2000, 0), 1, chain(2000, -100), api.ErrTermVariable},
		{"other term's shape, length", chain(2000, 0), 1, chain(2000, 1), api.ErrTermShape},
		{"other term is empty", sample(), 0, nil, api.ErrTermShape},
		{"length", chain(2000, 0), 1, chain(2000, 0), api.ErrTermLong},
	} {
		if w, e := term.Put(s, c.t, c.at, c.u); len(w) != 0 || e != c.e {
			t.Errorf("%s: %d numbers, %v", c.what, len(w), e)
		}
	}
}

// P2.4: the chapter's examples; a path that ends at a variable, and one that leads beyond it.
func TestPaths(t *testing.T) {
	s := signature(t, symbols())
	for at, path := range [][]int{{}, {0}, {0, 0}, {1}} {
		if p, e := term.Path(s, sample(), at); !slices.Equal(p, path) || e != api.OK {
			t.Errorf("Path %d: %v, %v", at, p, e)
		}
		if n, e := term.Place(s, sample(), path...); n != at || e != api.OK {
			t.Errorf("Place %v: %d, %v", path, n, e)
		}
	}
	for _, path := range [][]int{
		{1, 0}, {2}, {-1}, {0, 0, 0}, {0, 1}, {0, -1}, {1, -1}, {1, 0, 0}, {2, 0}, {-1, 0},
		{math.MaxInt}, {math.MinInt}, {0, math.MaxInt}, make([]int, 10000),
	} {
		if n, e := term.Place(s, sample(), path...); n != 0 || e != api.ErrTermPath {
			t.Errorf("Place %.12v: %d, %v", path, n, e)
		}
	}
	if n, e := term.Place(s, api.Term{-1}, 0); n != 0 || e != api.ErrTermPath {
		t.Errorf("beyond a variable alone: %d, %v", n, e)
	}
	if n, e := term.Place(s, api.Term{-1}); n != 0 || e != api.OK {
		t.Errorf("a variable alone: %d, %v", n, e)
	}
}

// P2.4, P2.5: the longest paths.
func TestDeepest(t *testing.T) {
	s := signature(t, symbols())
	u := chain(2000, -99)
	p, e := term.Path(s, u, 1999)
	if !slices.Equal(p, make([]int, 1999)) || e != api.OK {
		t.Errorf("Path: %d numbers, %v", len(p), e)
	}
	if n, e := term.Place(s, u, p...); n != 1999 || e != api.OK {
		t.Errorf("Place: %d, %v", n, e)
	}
	if n, e := term.Place(s, u, append(p, 0)...); n != 0 || e != api.ErrTermPath {
		t.Errorf("Place beyond: %d, %v", n, e)
	}
	if d, e := term.Depth(s, u); d != 2000 || e != api.OK {
		t.Errorf("Depth: %d, %v", d, e)
	}
	if d, e := term.Depth(s, comb(1999)); d != 1000 || e != api.OK {
		t.Errorf("Depth of a comb: %d, %v", d, e)
	}
}

// P2.5: a variable, a symbol without arguments, and the deepest of several arguments, wherever it stands.
func TestDepth(t *testing.T) {
	s := signature(t, symbols())
	for _, c := range []struct {
		t api.Term
		d int
	}{
		{api.Term{-1}, 1}, {api.Term{0}, 1}, {api.Term{7}, 1}, {api.Term{1, -1}, 2}, {sample(), 3},
		{api.Term{2, 0, 1, 0}, 3}, {api.Term{2, 0, 0}, 2}, {api.Term{6, 0, 0, 0, 0, 0, 0}, 2},
		{api.Term{3, 0, 1, 1, 0, 1, 0}, 4}, {api.Term{3, 1, 1, 0, 1, 0, 0}, 4}, {api.Term{3, 0, 1, 0, 1, 1, 0}, 4},
	} {
		if d, e := term.Depth(s, c.t); d != c.d || e != api.OK {
			t.Errorf("Depth %v: %d, %v, not %d", c.t, d, e, c.d)
		}
	}
}

// P2.6: of any lists: numbers that are no variables are passed over.
func TestVariables(t *testing.T) {
	for _, c := range []struct {
		t api.Term
		l []int
	}{
		{api.Term{2, -7, -3}, []int{7, 3}},
		{api.Term{2, -3, -7}, []int{3, 7}},
		{api.Term{3, -7, -3, -7}, []int{7, 3}},
		{api.Term{-1, -99, -100, -98, -101, math.MinInt, math.MinInt + 1}, []int{1, 99, 98}},
		{api.Term{0, 1, 99, math.MaxInt, 500}, nil},
		{api.Term{-5, -5, -5}, []int{5}},
		{api.Term{}, nil},
		{nil, nil},
	} {
		if l := term.Variables(c.t); !slices.Equal(l, c.l) {
			t.Errorf("Variables %v: %v, not %v", c.t, l, c.l)
		}
	}
	var all api.Term
	var want []int
	for n := 99; n >= 1; n-- {
		all = append(all, -n, 0, -99)
		want = append(want, n)
	}
	if l := term.Variables(append(all, all...)); !slices.Equal(l, want) {
		t.Errorf("Variables of all: %v", l)
	}
	if l := term.Variables(chain(5000, -4)); !slices.Equal(l, []int{4}) {
		t.Errorf("Variables of 5000 numbers: %v", l)
	}
}

// P2.6: the variables of all lists are numbered together, in the order in which they first stand.
func TestPlain(t *testing.T) {
	for _, c := range []struct{ l, want []api.Term }{
		{[]api.Term{{2, -7, -3}, {-3}, {-4}}, []api.Term{{2, -1, -2}, {-2}, {-3}}},
		{[]api.Term{{2, -2, -1}}, []api.Term{{2, -1, -2}}},
		{[]api.Term{{2, -1, -2}, {2, -2, -1}}, []api.Term{{2, -1, -2}, {2, -2, -1}}},
		{[]api.Term{{-99, -99}, nil, {}, {-98, -99}}, []api.Term{{-1, -1}, {}, {}, {-2, -1}}},
		{[]api.Term{{-100, 0, -50, math.MinInt, math.MaxInt, 99}}, []api.Term{{-100, 0, -1, math.MinInt, math.MaxInt, 99}}},
		{[]api.Term{{math.MinInt + 1, -101, -99, -1}}, []api.Term{{math.MinInt + 1, -101, -1, -2}}},
		{[]api.Term{nil}, []api.Term{nil}},
		{nil, nil},
	} {
		if got := term.Plain(c.l...); !slices.EqualFunc(got, c.want, slices.Equal) {
			t.Errorf("Plain %v: %v, not %v", c.l, got, c.want)
		}
	}
	var all, want api.Term
	for n := range 99 {
		all = append(all, -99+n)
		want = append(want, -1-n)
	}
	if got := term.Plain(chain(3000, 5), all); len(got) != 2 || !slices.Equal(got[0], chain(3000, 5)) || !slices.Equal(got[1], want) {
		t.Errorf("Plain of all variables: %v", got[1])
	}
}

// P2.7: what is put back changes nothing; places and paths lead to each other; what was put is there.
func TestThereAndBack(t *testing.T) {
	s := signature(t, symbols())
	l := grove()
	for i, x := range l {
		u, v := x.list(), l[(i+11)%len(l)].list()
		for at := range u {
			sub, _ := term.Sub(s, u, at)
			if w, e := term.Put(s, u, at, sub); !slices.Equal(w, u) || e != api.OK {
				t.Errorf("Put of Sub %v at %d: %v, %v", u, at, w, e)
			}
			p, _ := term.Path(s, u, at)
			n, e := term.Place(s, u, p...)
			if n != at || e != api.OK {
				t.Errorf("Place of Path %v to %d: %d, %v", u, at, n, e)
			}
			if q, _ := term.Path(s, u, n); !slices.Equal(p, q) {
				t.Errorf("Path of Place %v by %v: %v", u, p, q)
			}
			w, _ := term.Put(s, u, at, v)
			if got, e := term.Sub(s, w, at); !slices.Equal(got, v) || e != api.OK {
				t.Errorf("Sub of Put %v at %d: %v, %v", u, at, got, e)
			}
		}
	}
}

// roomy is a list with spare room, and all of that room.
func roomy(l []int) (list, room []int) {
	room = append(slices.Clone(l), 55, 56, 57, 58, 59, 60, 61, 62, 63, 64)
	return room[:len(l):len(room)], room
}

// R4: what is handed in stays as it was, spare room too, also where an error is answered; and answers are new memory.
func TestNothingIsShared(t *testing.T) {
	s := signature(t, symbols())
	for _, given := range []api.Term{sample(), {0}, {-7}, {2, 0}} {
		for at := -1; at <= len(given); at++ {
			u, room := roomy(given)
			v, otherRoom := roomy([]int{1, -9})
			path, pathRoom := roomy([]int{0})
			before := [][]int{slices.Clone(room), slices.Clone(otherRoom), slices.Clone(pathRoom)}
			var answers [][]int
			keep := func(l []int, _ api.Errno) { answers = append(answers, l[:cap(l)]) }
			keep(term.Args(s, u, at))
			sub, e := term.Sub(s, u, at)
			keep(sub, e)
			put, e := term.Put(s, u, at, v)
			keep(put, e)
			keep(term.Path(s, u, at))
			term.End(s, u, at)
			term.Place(s, u, path...)
			term.Depth(s, u)
			keep(term.Variables(u), api.OK)
			for _, p := range term.Plain(u, v, u) {
				keep(p, api.OK)
			}
			for i, l := range answers {
				for k := range l {
					l[k] = 1000 + i
				}
			}
			for i, l := range answers {
				for _, n := range l {
					if n != 1000+i {
						t.Fatalf("of %v at %d: the answers %v share memory", given, at, answers)
					}
				}
			}
			if !slices.EqualFunc(before, [][]int{room, otherRoom, pathRoom}, slices.Equal) {
				t.Fatalf("of %v at %d: what was handed in is changed", given, at)
			}
		}
	}
}

// R4: a signature that is asked stays as it was; what it gains later, the next call sees.
func TestSignatureStays(t *testing.T) {
	s := signature(t, symbols()[:3])
	for _, c := range calls() {
		c.ask(s, sample(), 1)
		c.ask(s, api.Term{9}, 1)
	}
	if s.Len() != 3 {
		t.Errorf("%d symbols", s.Len())
	}
	s.Add(api.Symbol{Name: "two", Arity: 2})
	if n, e := term.End(s, api.Term{3, 0, 0}, 0); n != 3 || e != api.OK {
		t.Errorf("End with a new symbol: %d, %v", n, e)
	}
}

// R5: the same calls answer the same, each time.
func TestSameEachTime(t *testing.T) {
	s := signature(t, symbols())
	for range 3 {
		first := term.Plain(api.Term{2, -7, -3}, api.Term{-3})
		again := term.Plain(api.Term{2, -7, -3}, api.Term{-3})
		if !slices.EqualFunc(first, again, slices.Equal) {
			t.Errorf("Plain: %v, %v", first, again)
		}
		for at := range sample() {
			a, _ := term.Put(s, sample(), at, api.Term{-5})
			b, _ := term.Put(s, sample(), at, api.Term{-5})
			if !slices.Equal(a, b) {
				t.Errorf("Put: %v, %v", a, b)
			}
		}
	}
}

// Errors: each of the layer's errors is its own number.
func TestErrorNumbers(t *testing.T) {
	for e, n := range map[api.Errno]int{api.ErrTermLong: 20, api.ErrTermSymbol: 21, api.ErrTermVariable: 22, api.ErrTermShape: 23, api.ErrTermPlace: 24, api.ErrTermPath: 25} {
		if int(e) != n || !errors.Is(error(e), api.Errno(n)) {
			t.Errorf("%d is not %d", int(e), n)
		}
	}
	if api.MaxTerm != 2000 || api.MaxVariables != 99 {
		t.Error("limits")
	}
}
