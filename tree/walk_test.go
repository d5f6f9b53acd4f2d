package tree_test

import (
	"math"
	"math/rand"
	"slices"
	"testing"

	"ropewalk/api"
	"ropewalk/sig"
	"ropewalk/tree"
)

// caseOf is the case tree of a symbol, for rules that are written out.
func caseOf(t *testing.T, text string, symbol int) api.Case {
	t.Helper()
	c, err := tree.Build(filled(t, text), symbol)
	if err != nil {
		t.Fatalf("%s: %v", text, err)
	}
	return c
}

func fits(rule int) api.Found { return api.Found{Kind: api.Fits, Rule: rule} }

func rigid() api.Found { return api.Found{Kind: api.Rigid} }

func demand(node int, path ...int) api.Found {
	return api.Found{Kind: api.Demand, Path: path, Node: node}
}

// P8.2: the chapter's examples.
func TestWalkExamples(t *testing.T) {
	c := caseOf(t, sum, add)
	for _, x := range []struct {
		t    api.Term
		want api.Found
		e    api.Errno
	}{
		{api.Term{3, 0, 2}, fits(0), api.OK},
		{api.Term{3, 2, 0}, rigid(), api.OK},
		{api.Term{3, 3, 0, 0, 2}, demand(1, 0), api.OK},
		{api.Term{3, -1, 0}, api.Found{}, api.ErrTermVariable},
	} {
		if got, e := tree.Walk(signature(t), c, x.t, 0); !sameFound(got, x.want) || e != x.e {
			t.Errorf("%v: %v, %v", x.t, got, e)
		}
	}
}

// P8.2: each way in which a walk ends, through trees that were built: at the root, and at other places.
func TestWalk(t *testing.T) {
	const parted = "f(X,z,Y) -> z; f(z,s(X),Y) -> z; f(s(X),s(Y),a) -> z"
	for _, x := range []struct {
		rules  string
		symbol int
		term   string
		at     int
		want   api.Found
	}{
		// A leaf, at once and beneath branches, whatever its variables stand for.
		{"h -> z", h, "h", 0, fits(0)},
		{"h -> z; k(X) -> X", k, "k(k(h))", 0, fits(1)},
		{"h -> z; k(X) -> X", k, "k(k(h))", 1, fits(1)},
		{sum, add, "add(z,h)", 0, fits(0)},
		{sum, add, "add(s(add(h,h)),add(h,h))", 0, fits(1)},
		{sum, add, "p(add(s(z),z),add(z,z))", 1, fits(1)},
		{sum, add, "p(add(s(z),z),add(z,z))", 5, fits(0)},
		{parted, f, "f(h,z,h)", 0, fits(0)},
		{parted, f, "f(z,s(h),h)", 0, fits(1)},
		{parted, f, "f(s(h),s(h),a)", 0, fits(2)},
		// A constructor that a branch has not.
		{sum, add, "add(a,h)", 0, rigid()},
		{sum, add, "p(add(z,z),add(p(h,h),z))", 4, rigid()},
		{parted, f, "f(h,a,h)", 0, rigid()},
		{parted, f, "f(a,s(h),h)", 0, rigid()},
		{parted, f, "f(s(h),s(h),p(h,h))", 0, rigid()},
		// A fail.
		{sum, h, "h", 0, rigid()},
		{sum, f, "f(h,z,a)", 0, rigid()},
		// A defined symbol: the path from the place, and the place in the whole term.
		{sum, add, "add(h,z)", 0, demand(1, 0)},
		{sum, add, "s(add(h,z))", 1, demand(2, 0)},
		{sum, add, "p(add(z,z),add(add(h,h),z))", 4, demand(5, 0)},
		{parted, f, "f(add(z,z),h,h)", 0, demand(4, 1)},
		{parted, f, "f(h,s(h),h)", 0, demand(1, 0)},
		{parted, f, "f(s(h),s(h),h)", 0, demand(5, 2)},
		{parted, f, "p(f(z,z,z),f(s(h),s(add(a,a)),h))", 5, demand(12, 2)},
		{"k(s(p(X,a))) -> z", k, "k(s(p(six(z,z,z,z,z,z),h)))", 0, demand(10, 0, 0, 1)},
		{"g(A,B,C,D,E,six(A1,B1,C1,D1,E1,z)) -> z", g, "g(z,z,z,z,s(z),six(z,z,z,z,s(z),h))", 0, demand(14, 5, 5)},
		// What stands there is demanded though no rule ever fits it: whether it is rigid is not looked at.
		{sum, add, "add(add(a,z),z)", 0, demand(1, 0)},
		{sum, add, "add(k(z),z)", 0, demand(1, 0)},
		// What stands at the place itself is not looked at.
		{sum, add, "p(s(h),z)", 0, fits(1)},
		{sum, add, "p(add(z,z),z)", 0, demand(1, 0)},
		{sum, add, "s(z)", 0, fits(0)},
		{sum, add, "k(a)", 0, rigid()},
		{"h -> z", h, "z", 0, fits(0)},
		{sum, h, "six(z,z,z,z,z,z)", 3, rigid()},
	} {
		c := caseOf(t, x.rules, x.symbol)
		if got, e := tree.Walk(signature(t), c, term(t, x.term), x.at); !sameFound(got, x.want) || e != api.OK {
			t.Errorf("%s at %d: %v, %v", x.term, x.at, got, e)
		}
	}
}

// P8.2: Cases that were made by hand.
func TestWalkByHand(t *testing.T) {
	other := func(kind int) api.Case {
		return api.Case{Kind: kind, Rule: 4, Path: []int{0}, Kids: []api.Kid{kid(z, leaf(1))}}
	}
	for _, x := range []struct {
		c    api.Case
		term string
		at   int
		want api.Found
		e    api.Errno
	}{
		// Other Kinds, at the root and beneath; what they have beside is nothing.
		{api.Case{}, "k(z)", 0, rigid(), api.OK},
		{other(0), "k(z)", 0, rigid(), api.OK},
		{other(4), "k(z)", 0, rigid(), api.OK},
		{other(-1), "k(z)", 0, rigid(), api.OK},
		{other(math.MaxInt), "k(z)", 0, rigid(), api.OK},
		{other(math.MinInt), "k(z)", 0, rigid(), api.OK},
		{other(api.Fail), "k(z)", 0, rigid(), api.OK},
		{other(api.Leaf), "k(z)", 0, fits(4), api.OK},
		{other(api.Branch), "k(z)", 0, fits(1), api.OK},
		{branch([]int{0}, kid(z, other(7))), "k(z)", 0, rigid(), api.OK},
		{branch([]int{0}, kid(z, api.Case{})), "k(z)", 0, rigid(), api.OK},
		{branch([]int{0}, kid(z, fail())), "k(z)", 0, rigid(), api.OK},
		// Rules of any number.
		{leaf(-5), "z", 0, fits(-5), api.OK},
		{leaf(math.MaxInt), "z", 0, fits(math.MaxInt), api.OK},
		// Paths that lead nowhere: beyond the arguments, below 0, beneath what has none, of a kid.
		{branch([]int{1}, kid(z, leaf(1))), "k(z)", 0, api.Found{}, api.ErrTermPath},
		{branch([]int{-1}, kid(z, leaf(1))), "k(z)", 0, api.Found{}, api.ErrTermPath},
		{branch([]int{math.MaxInt}), "k(z)", 0, api.Found{}, api.ErrTermPath},
		{branch([]int{math.MinInt}), "k(z)", 0, api.Found{}, api.ErrTermPath},
		{branch([]int{0, 0}, kid(z, leaf(1))), "k(z)", 0, api.Found{}, api.ErrTermPath},
		{branch([]int{0}, kid(z, leaf(1))), "z", 0, api.Found{}, api.ErrTermPath},
		{branch([]int{0}, kid(z, branch([]int{0, 3}))), "k(z)", 0, api.Found{}, api.ErrTermPath},
		{branch([]int{0}, kid(z, branch([]int{2}))), "add(z,h)", 0, api.Found{}, api.ErrTermPath},
		// From the place, not from the root: what is an argument of the root's is none of the place's.
		{branch([]int{1}, kid(z, leaf(1))), "p(k(a),z)", 1, api.Found{}, api.ErrTermPath},
		{branch([]int{0}, kid(z, leaf(1)), kid(a, leaf(2))), "p(k(a),z)", 1, fits(2), api.OK},
		{branch([]int{0, 0}, kid(a, leaf(2))), "p(k(a),z)", 0, fits(2), api.OK},
		{branch([]int{0}), "p(z,z)", 2, api.Found{}, api.ErrTermPath},
		// A path through a defined symbol leads on.
		{branch([]int{0, 0}, kid(z, leaf(2))), "k(k(z))", 0, fits(2), api.OK},
		{branch([]int{1, 0, 1}, kid(z, leaf(2))), "add(h,k(add(h,h)))", 0, demand(5, 1, 0, 1), api.OK},
		// The empty path leads to the place itself.
		{branch(nil, kid(k, leaf(1))), "k(z)", 0, demand(0), api.OK},
		{branch([]int{}, kid(z, leaf(1))), "k(z)", 1, fits(1), api.OK},
		{branch(nil, kid(z, leaf(1))), "k(s(h))", 1, rigid(), api.OK},
		{branch(nil), "p(k(z),add(h,h))", 3, demand(3), api.OK},
		// Kids twice over: the first is taken. Without order: each is found.
		{branch([]int{0}, kid(z, leaf(1)), kid(z, leaf(2))), "k(z)", 0, fits(1), api.OK},
		{branch([]int{0}, kid(z, fail()), kid(z, leaf(2))), "k(z)", 0, rigid(), api.OK},
		{branch([]int{0}, kid(a, leaf(3)), kid(z, leaf(1)), kid(a, leaf(2))), "k(a)", 0, fits(3), api.OK},
		{branch([]int{0}, kid(six, leaf(3)), kid(a, leaf(4)), kid(z, leaf(5)), kid(s, leaf(6))), "k(s(h))", 0, fits(6), api.OK},
		{branch([]int{0}, kid(six, leaf(3)), kid(a, leaf(4)), kid(z, leaf(5)), kid(s, leaf(6))), "k(z)", 0, fits(5), api.OK},
		// No kids, and kids for what is no constructor.
		{branch([]int{0}), "k(z)", 0, rigid(), api.OK},
		{branch([]int{0}), "k(h)", 0, demand(1, 0), api.OK},
		{branch([]int{0}, kid(h, leaf(1))), "k(h)", 0, demand(1, 0), api.OK},
		{branch([]int{0}, kid(h, leaf(1)), kid(-1, leaf(2)), kid(99, leaf(3)), kid(a, leaf(4))), "k(a)", 0, fits(4), api.OK},
		{branch([]int{0}, kid(-1, leaf(2)), kid(99, leaf(3))), "k(a)", 0, rigid(), api.OK},
		// The same path again, and one above it.
		{branch([]int{0}, kid(s, branch([]int{0}, kid(s, branch([]int{0}, kid(s, leaf(9))))))), "k(s(h))", 0, fits(9), api.OK},
		{branch([]int{0, 0}, kid(z, branch([]int{0}, kid(s, leaf(9))))), "k(s(z))", 0, fits(9), api.OK},
		{branch([]int{0}, kid(s, branch([]int{0}, kid(z, leaf(9))))), "k(s(z))", 0, rigid(), api.OK},
	} {
		if got, e := tree.Walk(signature(t), x.c, term(t, x.term), x.at); !sameFound(got, x.want) || e != x.e {
			t.Errorf("%v, %s at %d: %v, %v", x.c, x.term, x.at, got, e)
		}
	}
}

// P8.2, R1: as deep as parts may be nested, through a term as long as may be, and by paths as long as may be.
func TestWalkDeep(t *testing.T) {
	long := chain(s, 1998, z)
	if len(long) != 2000 {
		t.Fatal("not 2000")
	}
	if got, e := tree.Walk(signature(t), deep([]int{0, 0}, 1<<16-10), long, 1); !sameFound(got, fits(7)) || e != api.OK {
		t.Errorf("deep: %v, %v", got, e)
	}
	path := make([]int, 1999)
	if got, e := tree.Walk(signature(t), branch(path, kid(z, leaf(3))), long, 0); !sameFound(got, fits(3)) || e != api.OK {
		t.Errorf("a long path: %v, %v", got, e)
	}
	for _, more := range [][]int{make([]int, 2000), make([]int, 100000)} {
		if got, e := tree.Walk(signature(t), branch(more, kid(z, leaf(3))), long, 0); !sameFound(got, api.Found{}) || e != api.ErrTermPath {
			t.Errorf("a path of %d: %v, %v", len(more), got, e)
		}
	}
	long[1999] = h
	if got, e := tree.Walk(signature(t), branch(path[:99], kid(s, branch(path[:1000]))), long, 999); !sameFound(got, demand(1999, path[:1000]...)) || e != api.OK {
		t.Errorf("the last place: %v, %v", got, e)
	}
}

// P8.2: lists that are no terms, whatever the Case is.
func TestWalkNoTerm(t *testing.T) {
	for _, c := range []api.Case{leaf(1), fail(), {}, branch([]int{5}), branch(nil)} {
		for _, x := range badTerms() {
			for _, at := range []int{0, -1, 1, 5000} {
				if got, e := tree.Walk(signature(t), c, x.t, at); !sameFound(got, api.Found{}) || e != x.e {
					t.Errorf("%v at %d: %v, %v", x.t, at, got, e)
				}
			}
		}
	}
}

// P8.2: a variable anywhere in a term, even where no walk would come to it.
func TestWalkVariable(t *testing.T) {
	for _, c := range []api.Case{leaf(1), fail(), {}, branch([]int{5}), branch([]int{0}, kid(z, leaf(0)))} {
		for _, x := range []api.Term{{-1}, {-99}, {add, z, -1}, {add, -2, z}, {p, add, z, z, s, -99}, {p, -1, add, z, z}} {
			for at := -1; at <= len(x); at++ {
				if got, e := tree.Walk(signature(t), c, x, at); !sameFound(got, api.Found{}) || e != api.ErrTermVariable {
					t.Errorf("%v at %d: %v, %v", x, at, got, e)
				}
			}
		}
	}
}

// P8.2: places below 0 and beyond the last one, whatever the Case is.
func TestWalkNoPlace(t *testing.T) {
	x := api.Term{add, z, z}
	for _, c := range []api.Case{leaf(1), fail(), {}, branch([]int{5}), branch([]int{0}, kid(z, leaf(0)))} {
		for _, at := range []int{-1, 3, 4, 2000, math.MaxInt, math.MinInt} {
			if got, e := tree.Walk(signature(t), c, x, at); !sameFound(got, api.Found{}) || e != api.ErrTermPlace {
				t.Errorf("%d: %v, %v", at, got, e)
			}
		}
	}
	if got, e := tree.Walk(signature(t), leaf(1), x, 2); !sameFound(got, fits(1)) || e != api.OK {
		t.Errorf("the last place: %v, %v", got, e)
	}
}

// R1, R2: a nil signature ahead of all else, and one without symbols.
func TestWalkNoSignature(t *testing.T) {
	for _, c := range []api.Case{leaf(1), fail(), {}, branch([]int{0}, kid(z, leaf(0)))} {
		for _, x := range append(badTerms(), bad{t: api.Term{add, z, z}}, bad{t: api.Term{-1}}) {
			for _, at := range []int{0, -1, 9} {
				if got, e := tree.Walk(nil, c, x.t, at); !sameFound(got, api.Found{}) || e != api.ErrArg {
					t.Errorf("nil: %v, %v", got, e)
				}
			}
		}
		for _, empty := range []*sig.Sig{sig.New(), {}} {
			if got, e := tree.Walk(empty, c, api.Term{z}, 0); !sameFound(got, api.Found{}) || e != api.ErrTermSymbol {
				t.Errorf("without symbols: %v, %v", got, e)
			}
		}
	}
}

// grownCase is a Case that a seed's numbers choose, of any shape.
func grownCase(r *rand.Rand, depth int) api.Case {
	if depth <= 1 || r.Intn(5) == 0 {
		return api.Case{Kind: r.Intn(5), Rule: r.Intn(9)}
	}
	c := api.Case{Kind: api.Branch}
	for range r.Intn(3) {
		c.Path = append(c.Path, []int{0, 0, 0, 1, 1, 2, -1}[r.Intn(7)])
	}
	for range r.Intn(6) {
		c.Kids = append(c.Kids, kid([]int{z, s, a, p, h, -1, 10}[r.Intn(7)], grownCase(r, depth-1)))
	}
	return c
}

// P8.2: what its words say, of many Cases, at all places of many terms.
func TestWalkByWords(t *testing.T) {
	random := rand.New(rand.NewSource(82))
	met := map[int]int{}
	for range 4000 {
		c := grownCase(random, 5)
		x := closed(random, []int{add, f, k, p, s}[random.Intn(5)], 4)
		for at, path := range x.paths() {
			y, _ := x.along(path)
			want, e := walked(c, y, at)
			got, f := tree.Walk(signature(t), c, x.list(), at)
			if !sameFound(got, want) || e != f {
				t.Fatalf("%v, %v at %d: %v, %v; want %v, %v", c, x.list(), at, got, f, want, e)
			}
			met[got.Kind]++
		}
	}
	if slices.Min([]int{met[0], met[api.Fits], met[api.Rigid], met[api.Demand]}) < 1000 {
		t.Errorf("%v", met)
	}
}
