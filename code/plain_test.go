package code_test

import (
	"math"
	"math/rand"
	"slices"
	"testing"

	"ropewalk/api"
	"ropewalk/code"
	"ropewalk/sig"
)

var _ code.View = code.Plain{}

// far are numbers that are places and arguments of nothing.
func far() []int {
	return []int{-1, -2, -99, 2000, math.MaxInt, math.MaxInt - 1, math.MinInt, math.MinInt + 1}
}

// P9.1: the chapter's examples.
func TestPlainExamples(t *testing.T) {
	v := code.Over(signature(t), api.Term{2, 1, 0, 0})
	if n, is := v.Head(4); n != -1 || is {
		t.Errorf("Head(4): %d, %t", n, is)
	}
	if n := v.Arg(0, 2); n != -1 {
		t.Errorf("Arg(0, 2): %d", n)
	}
	if n := v.Arg(0, 1); n != 3 {
		t.Errorf("Arg(0, 1): %d", n)
	}
}

// same holds a view of a closed term against what the plant says of all its places, and of what is none.
func same(t *testing.T, v code.Plain, x plant) {
	t.Helper()
	paths := x.paths()
	for at, path := range paths {
		y := x.along(path)
		if n, is := v.Head(at); n != y.number || is {
			t.Fatalf("%v: Head(%d): %d, %t", x.list(), at, n, is)
		}
		for n := range y.kids {
			below := append(slices.Clone(path), n)
			want := slices.IndexFunc(paths, func(l []int) bool { return slices.Equal(l, below) })
			if got := v.Arg(at, n); got != want {
				t.Fatalf("%v: Arg(%d, %d): %d; want %d", x.list(), at, n, got, want)
			}
		}
		for _, n := range append(far(), len(y.kids), len(y.kids)+1) {
			if got := v.Arg(at, n); got != -1 {
				t.Fatalf("%v: Arg(%d, %d): %d", x.list(), at, n, got)
			}
		}
	}
	nowhere(t, v, append(far(), len(paths), len(paths)+1))
}

// nowhere asks a view of places that there are not.
func nowhere(t *testing.T, v code.Plain, places []int) {
	t.Helper()
	for _, at := range places {
		if n, is := v.Head(at); n != -1 || is {
			t.Errorf("Head(%d): %d, %t", at, n, is)
		}
		for _, n := range append(far(), 0, 1, 5, 6) {
			if got := v.Arg(at, n); got != -1 {
				t.Errorf("Arg(%d, %d): %d", at, n, got)
			}
		}
	}
}

// P9.1: all places of closed terms, and what is none; constructors and defined symbols alike.
func TestPlain(t *testing.T) {
	for _, text := range []string{"z", "h", "s(z)", "k(h)", "add(s(z),h)", "p(add(h,h),add(z,k(z)))", "six(z,s(z),p(z,z),h,s(s(z)),k(a))", "g(z,g(z,z,z,z,z,s(h)),z,f(z,s(a),z),z,a)"} {
		x := term(t, text)
		same(t, code.Over(signature(t), x), plantOf(x))
	}
	random := rand.New(rand.NewSource(91))
	for range 300 {
		x := closed(random, []int{add, f, k, p, s, g, six}[random.Intn(7)], 4)
		same(t, code.Over(signature(t), x.list()), x)
	}
}

// P9.1: terms as long as may be: deep, and wide at each place.
func TestPlainLong(t *testing.T) {
	deep := chain(k, 1998, z)
	v := code.Over(signature(t), deep)
	for at := range deep {
		want := at + 1
		if at == 1999 {
			want = -1
		}
		if n, _ := v.Head(at); n != deep[at] || v.Arg(at, 0) != want || v.Arg(at, 1) != -1 {
			t.Fatalf("%d: %d, %d", at, n, v.Arg(at, 0))
		}
	}
	nowhere(t, v, far())
	comb := plant{number: z}
	for range 333 {
		comb = plant{six, []plant{{number: z}, {number: a}, {number: z}, {number: h}, {number: z}, comb}}
	}
	wide := comb.list()
	v = code.Over(signature(t), wide)
	for i := range 333 {
		for n := range 6 {
			if got := v.Arg(6*i, n); got != 6*i+1+n {
				t.Fatalf("Arg(%d, %d): %d", 6*i, n, got)
			}
		}
	}
	nowhere(t, v, append(far(), len(wide)))
}

// P9.1: a list that is no closed term, no signature, and a view that nobody made: nothing stands anywhere.
func TestPlainNoTerm(t *testing.T) {
	places := append(far(), 0, 1, 2, 3)
	for _, x := range badTerms() {
		nowhere(t, code.Over(signature(t), x), places)
		nowhere(t, code.Over(nil, x), places)
	}
	for _, x := range []api.Term{{z}, {add, z, z}, {h}} {
		nowhere(t, code.Over(nil, x), places)
		nowhere(t, code.Over(sig.New(), x), places)
		nowhere(t, code.Over(&sig.Sig{}, x), places)
	}
	nowhere(t, code.Plain{}, places)
	if n, is := code.Over(signature(t), api.Term{z}).Head(0); n != z || is {
		t.Errorf("Head(0): %d, %t", n, is)
	}
}

// P9.1: a view keeps to the term and to the signature as they were.
func TestPlainStays(t *testing.T) {
	x := signature(t)
	list, room := roomy(api.Term{add, s, z, p, h, a})
	late := api.Term{10, z}
	v, w := code.Over(x, list), code.Over(x, late)
	if !slices.Equal(room, []int{add, s, z, p, h, a, 55, 56, 57}) {
		t.Errorf("the list is %v", room)
	}
	fill(list, k)
	x.Add(api.Symbol{Name: "late", Arity: 1})
	same(t, v, plantOf(api.Term{add, s, z, p, h, a}))
	nowhere(t, w, []int{0, 1})
	if n, _ := code.Over(x, late).Head(0); n != 10 {
		t.Errorf("a later view tells %d", n)
	}
	*x = sig.Sig{}
	same(t, v, plantOf(api.Term{add, s, z, p, h, a}))
	other := v
	same(t, other, plantOf(api.Term{add, s, z, p, h, a}))
}
