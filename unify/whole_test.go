package unify_test

import (
	"errors"
	"math/rand"
	"slices"
	"testing"

	"ropewalk/api"
	"ropewalk/match"
	"ropewalk/sig"
	"ropewalk/term"
	"ropewalk/unify"
)

// P6.4: what Overlap tells is an instance of both; each small term that is one of both is one of it; where it tells none, there is none.
func TestMostGeneral(t *testing.T) {
	s := signature(t)
	given, others := small(4, 0, -1, -2), small(5, 0, -1, -2)
	instances := 0
	for _, x := range given {
		var ofX []tree
		for _, z := range others {
			if isInstance(x, z) {
				ofX = append(ofX, z)
			}
		}
		for _, y := range given {
			u, e := unify.Overlap(s, x.list(), y.list())
			for _, z := range ofX {
				if !isInstance(y, z) {
					continue
				}
				instances++
				if e != api.OK || !isInstance(treeOf(u), z) {
					t.Fatalf("Overlap(%v, %v): %v, %v, where %v is an instance of both", x.list(), y.list(), u, e, z.list())
				}
			}
			if e == api.OK && !(isInstance(x, treeOf(u)) && isInstance(y, treeOf(u))) {
				t.Fatalf("Overlap(%v, %v): %v is no instance of both", x.list(), y.list(), u)
			}
		}
	}
	if instances < 5000 {
		t.Errorf("only %d", instances)
	}
}

// P6.1, Words: what Unify tells comes of both by the same terms for their variables; whatever else does is an instance of it.
func TestMostGeneralOfUnify(t *testing.T) {
	s := signature(t)
	given, others := small(4, 0, -1, -2), small(3, 0, -1)
	both := func(x, y tree) tree { return tree{2, []tree{x, y}} }
	instances := 0
	for _, x := range given {
		for _, y := range given {
			u, e := unify.Unify(s, x.list(), y.list())
			if e == api.OK && !isInstance(both(x, y), both(treeOf(u), treeOf(u))) {
				t.Fatalf("Unify(%v, %v): %v is not both, by one and the same terms", x.list(), y.list(), u)
			}
			for _, first := range others {
				for _, second := range others {
					stands := map[int]tree{1: first, 2: second}
					z := x.with(stands)
					if !z.is(y.with(stands)) {
						continue
					}
					instances++
					if e != api.OK || !isInstance(treeOf(u), z) {
						t.Fatalf("Unify(%v, %v): %v, %v, where both are %v", x.list(), y.list(), u, e, z.list())
					}
				}
			}
		}
	}
	if instances < 5000 {
		t.Errorf("only %d", instances)
	}
}

// P6.4: it is the same for b and a; match says of it what the promise says; of greater terms, too.
func TestBothWays(t *testing.T) {
	s := signature(t)
	r := rand.New(rand.NewSource(2))
	found := 0
	for range 2000 {
		x := grown(r, 2+r.Intn(4), 5)
		a, b := hidden(r, x, 6).list(), hidden(r, x.apart(6), 6).list()
		if len(a) > 300 || len(b) > 300 {
			continue
		}
		u, e := unify.Overlap(s, a, b)
		if v, e2 := unify.Overlap(s, b, a); !slices.Equal(u, v) || e != e2 {
			t.Fatalf("Overlap(%v, %v): %v, %v; the other way %v, %v", a, b, u, e, v, e2)
		}
		if e != api.OK {
			continue
		}
		found++
		for _, pattern := range []api.Term{a, b} {
			if _, fits, e := match.Match(s, pattern, u, 0); !fits || e != api.OK {
				t.Fatalf("Overlap(%v, %v): %v is no instance of %v: %v", a, b, u, pattern, e)
			}
		}
		if !slices.Equal(u, term.Plain(u)[0]) {
			t.Fatalf("Overlap(%v, %v): %v is not plain", a, b, u)
		}
	}
	if found < 300 {
		t.Errorf("only %d", found)
	}
}

// P6.4: Unify of a term with itself is the term, as term.Plain has it.
func TestWithItself(t *testing.T) {
	s := signature(t)
	r := rand.New(rand.NewSource(3))
	terms := []api.Term{{-99}, {0}, {2, -2, -1}, chain(2000, -40), chain(2000, 7), bush(1, 99)}
	for range 300 {
		terms = append(terms, grown(r, 1+r.Intn(4), 99).list())
	}
	for _, x := range terms {
		want := term.Plain(x)[0]
		if u, e := unify.Unify(s, x, x); !slices.Equal(u, want) || e != api.OK {
			t.Errorf("Unify of %.20v with itself: %.20v, %v", x, u, e)
		}
		if u, e := unify.Overlap(s, x, x); !slices.Equal(u, want) || e != api.OK {
			t.Errorf("Overlap of %.20v with itself: %.20v, %v", x, u, e)
		}
	}
}

// roomy is a list with spare room, and all of that room.
func roomy(l api.Term) (list, room api.Term) {
	room = append(slices.Clone(l), 55, 56, 57, 58, 59, 60, 61, 62, 63, 64)
	return room[:len(l):len(room)], room
}

// R4, R5: what is handed in stays as it was, spare room too, also where an error is answered; answers are new memory; the same is answered each time.
func TestNothingIsShared(t *testing.T) {
	s := signature(t)
	for _, given := range []struct{ a, b api.Term }{
		{api.Term{2, -1, 0}, api.Term{2, 1, -1, -2}}, {api.Term{-5}, api.Term{2, -1, -2}}, {api.Term{2, -1, -2}, api.Term{-1}}, {api.Term{2, 0, 7}, api.Term{2, 0, 7}},
		{api.Term{1, 0}, api.Term{1, 7}}, {api.Term{2, -1}, api.Term{0}}, {api.Term{0}, api.Term{9}}, {api.Term{2, -7, -7}, api.Term{2, -8, -9}},
	} {
		a, room := roomy(given.a)
		b, otherRoom := roomy(given.b)
		before, otherBefore := slices.Clone(room), slices.Clone(otherRoom)
		var answers, copies []api.Term
		for range 2 {
			for _, call := range []func(*sig.Sig, api.Term, api.Term) (api.Term, api.Errno){unify.Unify, unify.Overlap} {
				u, _ := call(s, a, b)
				answers, copies = append(answers, u), append(copies, slices.Clone(u))
			}
			unify.Clash(s, a, b)
		}
		if !slices.EqualFunc(copies[:2], copies[2:], slices.Equal) {
			t.Errorf("of %v, %v: %v", given.a, given.b, copies)
		}
		for i, u := range answers {
			for k := range u[:cap(u)] {
				u[:cap(u)][k] = 1000 + i
			}
		}
		for i, u := range answers {
			for _, n := range u[:cap(u)] {
				if n != 1000+i {
					t.Fatalf("of %v, %v: the answers share memory", given.a, given.b)
				}
			}
		}
		if !slices.Equal(before, room) || !slices.Equal(otherBefore, otherRoom) {
			t.Errorf("of %v, %v: what was handed in is changed", given.a, given.b)
		}
	}
}

// R4: one list handed in as both is one that stays as it was.
func TestOneListAsBoth(t *testing.T) {
	s := signature(t)
	room := api.Term{2, -3, 1, -3, 0}
	a, b := room[:4], room[2:4]
	if u, e := unify.Overlap(s, a, b); len(u) != 0 || e != api.ErrUnifyNone {
		t.Errorf("%v, %v", u, e)
	}
	if u, e := unify.Overlap(s, b, b); !slices.Equal(u, api.Term{1, -1}) || e != api.OK {
		t.Errorf("%v, %v", u, e)
	}
	if !slices.Equal(room, api.Term{2, -3, 1, -3, 0}) {
		t.Errorf("what was handed in is %v", room)
	}
}

// R4: a signature that is asked stays as it was; what it gains later, the next call sees.
func TestSignatureStays(t *testing.T) {
	s := signature(t)
	many := s.Len()
	late := api.Term{many, -1, 0}
	if _, e := unify.Unify(s, late, late); e != api.ErrTermSymbol || s.Len() != many {
		t.Errorf("a symbol that is not there: %v", e)
	}
	s.Add(api.Symbol{Name: "two", Arity: 2})
	if u, e := unify.Overlap(s, late, api.Term{many, many, 0, -2, -3}); !slices.Equal(u, api.Term{many, many, 0, -1, 0}) || e != api.OK {
		t.Errorf("with a new symbol: %v, %v", u, e)
	}
}

// R1: a signature without symbols, made by New or by hand: variables are the only terms.
func TestNoSymbols(t *testing.T) {
	for _, s := range []*sig.Sig{sig.New(), {}} {
		if u, e := unify.Unify(s, api.Term{-4}, api.Term{-2}); !slices.Equal(u, api.Term{-1}) || e != api.OK {
			t.Errorf("Unify: %v, %v", u, e)
		}
		if u, e := unify.Overlap(s, api.Term{-4}, api.Term{-4}); !slices.Equal(u, api.Term{-1}) || e != api.OK {
			t.Errorf("Overlap: %v, %v", u, e)
		}
		if clash, e := unify.Clash(s, api.Term{-4}, api.Term{-2}); clash || e != api.OK {
			t.Errorf("Clash: %v, %v", clash, e)
		}
		if clash, e := unify.Clash(s, api.Term{-4}, api.Term{0}); clash || e != api.ErrTermSymbol {
			t.Errorf("Clash of a symbol: %v, %v", clash, e)
		}
	}
}

// Errors: the layer's error is its own number; the limits are the document's.
func TestErrorNumbers(t *testing.T) {
	if int(api.ErrUnifyNone) != 60 || !errors.Is(error(api.ErrUnifyNone), api.Errno(60)) {
		t.Errorf("ErrUnifyNone is %d", int(api.ErrUnifyNone))
	}
	if api.MaxTerm != 2000 || api.MaxVariables != 99 {
		t.Error("limits")
	}
}
