package match_test

import (
	"errors"
	"slices"
	"testing"

	"ropewalk/api"
	"ropewalk/match"
	"ropewalk/sig"
)

// roomy is a list with spare room, and all of that room.
func roomy(l api.Term) (list, room api.Term) {
	room = append(slices.Clone(l), 55, 56, 57, 58, 59, 60, 61, 62, 63, 64)
	return room[:len(l):len(room)], room
}

// R4: what is handed in stays as it was, spare room too, also where an error is answered; answers are new memory, and no two lists of one share any.
func TestNothingIsShared(t *testing.T) {
	s := signature(t)
	for _, given := range []struct{ pattern, t api.Term }{
		{api.Term{2, -1, -2}, api.Term{2, 1, 0, -1}}, {api.Term{-1}, api.Term{1, 1, 0}}, {api.Term{1, 0}, api.Term{1, 0}},
		{api.Term{3, -1, -2, -1}, api.Term{3, 1, 0, 0, 1, 0}}, {api.Term{1, 0}, api.Term{0}}, {api.Term{2, -1}, api.Term{0}}, {api.Term{-1}, api.Term{8}},
	} {
		p, room := roomy(given.pattern)
		u, otherRoom := roomy(given.t)
		inner, innerRoom := roomy(api.Term{1, -2})
		all := binds(bind(1, inner...), bind(2, 0), bind(3, 1, 1, 0))
		all[0].Term = inner
		before := []api.Term{slices.Clone(room), slices.Clone(otherRoom), slices.Clone(innerRoom)}
		var answers []api.Term
		keep := func(l api.Term) { answers = append(answers, l[:cap(l)]) }
		for range 2 {
			l, _, _ := match.Match(s, p, u, 0)
			for _, b := range l {
				keep(b.Term)
			}
			v, _ := match.Apply(s, p, all[:2])
			keep(v)
			w, _ := match.Apply(s, p, nil)
			keep(w)
			match.Same(s, p, u)
		}
		for i, l := range answers {
			for k := range l {
				l[k] = 1000 + i
			}
		}
		for i, l := range answers {
			for _, n := range l {
				if n != 1000+i {
					t.Fatalf("of %v, %v: the answers %v share memory", given.pattern, given.t, answers)
				}
			}
		}
		if !slices.EqualFunc(before, []api.Term{room, otherRoom, innerRoom}, slices.Equal) {
			t.Errorf("of %v, %v: what was handed in is changed", given.pattern, given.t)
		}
		if !sameBinds(all, binds(bind(1, 1, -2), bind(2, 0), bind(3, 1, 1, 0))) {
			t.Errorf("of %v, %v: the binds are changed: %v", given.pattern, given.t, all)
		}
	}
}

// R4: the room behind a list of binds that Match tells is its own, too.
func TestBindsAreNew(t *testing.T) {
	s := signature(t)
	pattern, u := api.Term{3, -1, -2, -3}, api.Term{3, 0, 7, -1}
	want := binds(bind(1, 0), bind(2, 7), bind(3, -1))
	first, _, _ := match.Match(s, pattern, u, 0)
	first = append(first[:1], bind(9, 9), bind(9, 9), bind(9, 9))
	first[0].Variable = 77
	if l, fits, e := match.Match(s, pattern, u, 0); !sameBinds(l, want) || !fits || e != api.OK {
		t.Errorf("asked again: %v, %v, %v", l, fits, e)
	}
}

// R4: a signature that is asked stays as it was; what it gains later, the next call sees.
func TestSignatureStays(t *testing.T) {
	s := signature(t)
	many := s.Len()
	late := api.Term{many, -1, 0}
	match.Match(s, late, late, 0)
	match.Apply(s, late, nil)
	match.Same(s, late, late)
	if s.Len() != many {
		t.Fatalf("%d symbols", s.Len())
	}
	if _, _, e := match.Match(s, late, late, 0); e != api.ErrTermSymbol {
		t.Errorf("a symbol that is not there: %v", e)
	}
	s.Add(api.Symbol{Name: "two", Arity: 2})
	if l, fits, e := match.Match(s, late, api.Term{many, many, 0, 0, 0}, 0); !sameBinds(l, binds(bind(1, many, 0, 0))) || !fits || e != api.OK {
		t.Errorf("Match with a new symbol: %v, %v, %v", l, fits, e)
	}
}

// R1: a signature without symbols, made by New or by hand: variables are the only terms.
func TestNoSymbols(t *testing.T) {
	for _, s := range []*sig.Sig{sig.New(), {}} {
		if l, fits, e := match.Match(s, api.Term{-1}, api.Term{-2}, 0); !sameBinds(l, binds(bind(1, -2))) || !fits || e != api.OK {
			t.Errorf("Match: %v, %v, %v", l, fits, e)
		}
		if u, e := match.Apply(s, api.Term{-1}, binds(bind(1, -2))); !slices.Equal(u, api.Term{-2}) || e != api.OK {
			t.Errorf("Apply: %v, %v", u, e)
		}
		if same, e := match.Same(s, api.Term{-1}, api.Term{-2}); !same || e != api.OK {
			t.Errorf("Same: %v, %v", same, e)
		}
		if u, e := match.Apply(s, api.Term{-1}, binds(bind(1, 0))); len(u) != 0 || e != api.ErrTermSymbol {
			t.Errorf("Apply of a symbol: %v, %v", u, e)
		}
	}
}

// R5: the same calls answer the same, each time, whatever spare room their lists have.
func TestSameEachTime(t *testing.T) {
	s := signature(t)
	patterns, terms := grove(8, 30, 4), grove(9, 30, 4)
	for i, p := range patterns {
		u := terms[i].list()
		roomyPattern, _ := roomy(p.list())
		roomyTerm, _ := roomy(u)
		for at := range u {
			l, fits, e := match.Match(s, p.list(), u, at)
			if again, also, e2 := match.Match(s, roomyPattern, roomyTerm, at); !sameBinds(l, again) || fits != also || e != e2 {
				t.Errorf("Match(%v, %v, %d): %v, then %v", p.list(), u, at, l, again)
			}
		}
		v, e := match.Apply(s, p.list(), binds(bind(1, u...), bind(3, u...)))
		if again, e2 := match.Apply(s, roomyPattern, binds(bind(3, roomyTerm...), bind(1, roomyTerm...))); !slices.Equal(v, again) || e != e2 {
			t.Errorf("Apply to %v: %v, then %v", p.list(), v, again)
		}
	}
}

// Errors: the layer's error is its own number; the limits are the document's.
func TestErrorNumbers(t *testing.T) {
	if int(api.ErrMatchBind) != 50 || !errors.Is(error(api.ErrMatchBind), api.Errno(50)) {
		t.Errorf("ErrMatchBind is %d", int(api.ErrMatchBind))
	}
	if api.MaxTerm != 2000 || api.MaxVariables != 99 {
		t.Error("limits")
	}
}
