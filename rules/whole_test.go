package rules_test

import (
	"errors"
	"slices"
	"testing"

	"ropewalk/api"
	"ropewalk/rules"
	"ropewalk/sig"
)

// R1: a nil store: ErrArg ahead of all else, or zero values.
func TestNilStore(t *testing.T) {
	var r *rules.Store
	for _, l := range [][]api.Rule{nil, apart(0, 1), apart(0, 101), {rule(nil, nil)}} {
		for _, err := range []error{r.Check(l), r.Add(l)} {
			if v := told(t, err); v != (verdict{code: api.ErrArg}) || !bears(err, api.ErrArg) {
				t.Errorf("%v", err)
			}
		}
	}
	if err := r.Check(nil); err == r.Check(nil) {
		t.Error("a Fault is another one each time")
	}
	for _, n := range []int{0, -1, 5} {
		if x, e := r.At(n); e != api.ErrArg || x.Left != nil || x.Right != nil {
			t.Errorf("At(%d): %v, %v", n, x, e)
		}
	}
	if r.Sig() != nil || r.Copy() != nil || r.Len() != 0 || len(r.Of(3)) != 0 {
		t.Error("zero values are asked for")
	}
	all := r.All()
	if all == nil {
		t.Fatal("All is nil")
	}
	for n, x := range all {
		t.Errorf("All: %d, %v", n, x)
	}
}

// R1: a store that somebody made by hand, without a signature: there are no terms over it.
func TestHandMadeStore(t *testing.T) {
	r := &rules.Store{}
	for _, r := range []*rules.Store{r, r.Copy()} {
		if v := told(t, r.Check(apart(0, 1))); v != (verdict{code: api.ErrRulesTerm, why: api.ErrArg}) {
			t.Errorf("Check: %v", v)
		}
		if v := told(t, r.Add([]api.Rule{rule(nil, nil)})); v != (verdict{code: api.ErrRulesTerm, why: api.ErrArg}) {
			t.Errorf("Add: %v", v)
		}
		if v := told(t, r.Add(apart(0, 101))); v != (verdict{code: api.ErrRulesMany}) {
			t.Errorf("Add of 101: %v", v)
		}
		if err := r.Add(nil); err != nil {
			t.Errorf("Add of none: %v", err)
		}
		if _, e := r.At(0); e != api.ErrRulesNone || r.Len() != 0 || len(r.Of(0)) != 0 || r.Sig() != nil {
			t.Error("it has something")
		}
		for n := range r.All() {
			t.Errorf("All: %d", n)
		}
	}
}

// R1: a signature that somebody emptied: the rules are told as they were, and none of theirs is a term any more.
func TestSignatureEmptied(t *testing.T) {
	s := signature(t)
	r := rules.New(s)
	r.Add(apart(0, 2))
	*s = sig.Sig{}
	s.Add(api.Symbol{Name: "f", Defined: true})
	if err := r.Add([]api.Rule{rule(api.Term{0}, api.Term{0})}); err != nil || r.Len() != 3 {
		t.Errorf("%v, Len %d", err, r.Len())
	}
	if v := told(t, r.Check([]api.Rule{rule(api.Term{0}, api.Term{0})})); v != (verdict{code: api.ErrRulesOverlap, why: api.ErrRulesWith, whyAt: 2}) {
		t.Errorf("%v", v)
	}
	if x, e := r.At(1); e != api.OK || !sameRule(x, apart(1, 2)[0]) {
		t.Errorf("At: %v, %v", x, e)
	}
}

// R1: a signature without symbols: nothing can be a left side.
func TestNoSymbols(t *testing.T) {
	for _, s := range []*sig.Sig{sig.New(), {}} {
		r := rules.New(s)
		if v := told(t, r.Check([]api.Rule{rule(api.Term{-1}, api.Term{-1})})); v != (verdict{code: api.ErrRulesRoot}) {
			t.Errorf("a variable: %v", v)
		}
		if v := told(t, r.Check([]api.Rule{rule(api.Term{0}, api.Term{-1})})); v != (verdict{code: api.ErrRulesTerm, why: api.ErrTermSymbol}) {
			t.Errorf("a symbol: %v", v)
		}
	}
}

// roomy is a list with spare room, and all of that room.
func roomy(l api.Term) (list, room api.Term) {
	room = append(slices.Clone(l), 55, 56, 57, 58)
	return room[:len(l):len(room)], room
}

// R4: what is handed in is neither changed nor kept, its spare room included, whether it is taken or refused.
func TestHandedIn(t *testing.T) {
	for _, text := range []string{"f(z) -> z; f(s(X)) -> p(X,r); r -> r", "f(z) -> z; add(X,Y) -> X; r -> r", "f(z) -> z; s(X) -> z; r -> X"} {
		given := read(t, text)
		var rooms, before []api.Term
		l := make([]api.Rule, 3, 5)
		spare := l[:5]
		spare[3], spare[4] = rule(api.Term{77}, nil), rule(nil, api.Term{78})
		for i, x := range given {
			left, leftRoom := roomy(x.Left)
			right, rightRoom := roomy(x.Right)
			l[i] = rule(left, right)
			rooms = append(rooms, leftRoom, rightRoom)
			before = append(before, slices.Clone(leftRoom), slices.Clone(rightRoom))
		}
		r := sample(t)
		r.Check(l)
		r.Add(l)
		if !slices.EqualFunc(rooms, before, slices.Equal) || !sameRules(l, given) || !sameRules(spare[3:], []api.Rule{rule(api.Term{77}, nil), rule(nil, api.Term{78})}) {
			t.Errorf("%s: what was handed in is changed", text)
		}
		x := seen(t, r)
		for _, room := range rooms {
			for i := range room {
				room[i] = 1000
			}
		}
		clear(spare)
		if !seen(t, r).is(x) {
			t.Errorf("%s: what was handed in is kept", text)
		}
		if v := told(t, r.Check(read(t, "add(s(X),z) -> z"))); v != (verdict{code: api.ErrRulesOverlap, why: api.ErrRulesWith, whyAt: 1}) {
			t.Errorf("%s: then %v", text, v)
		}
	}
}

// R4: one list that stands in several places of what is handed in.
func TestOneListInSeveralPlaces(t *testing.T) {
	room := api.Term{3, 1, 3, 0, 1}
	l := []api.Rule{rule(room[2:4], room[3:4]), rule(api.Term{3, 1, -1}, room[2:4])}
	r := filled(t)
	if err := r.Add(l); err != nil {
		t.Fatal(err)
	}
	x, _ := r.At(0)
	y, _ := r.At(1)
	if !sameRule(x, rule(api.Term{3, 0}, api.Term{0})) || !sameRule(y, rule(api.Term{3, 1, -1}, api.Term{3, 0})) {
		t.Errorf("%v, %v", x, y)
	}
	if !slices.Equal(room, api.Term{3, 1, 3, 0, 1}) {
		t.Errorf("what was handed in is %v", room)
	}
}

// given are all the lists that a store gave out: by At and All, and by a copy.
func given(r *rules.Store) []api.Term {
	var l []api.Term
	for _, r := range []*rules.Store{r, r.Copy()} {
		for n, x := range r.All() {
			y, _ := r.At(n)
			l = append(l, x.Left, x.Right, y.Left, y.Right)
		}
		for n := range 8 {
			l = append(l, r.Of(n))
		}
	}
	return l
}

// R4: what is given out is new memory, spare room too: what is done to it is not seen, neither in the store nor in a list that was given out elsewhere.
func TestGivenOut(t *testing.T) {
	r := filled(t, read(t, "add(z,X) -> X; add(s(X),Y) -> s(add(X,Y)); r -> z; f(s(X)) -> p(X,X)")...)
	before := seen(t, r)
	c := r.Copy()
	lists := slices.Concat(given(r), given(r), given(c))
	for i, l := range lists {
		for k := range l[:cap(l)] {
			l[:cap(l)][k] = 1000 + i
		}
	}
	for i, l := range lists {
		for _, n := range l[:cap(l)] {
			if n != 1000+i {
				t.Fatal("lists that were given out share memory")
			}
		}
	}
	if !seen(t, r).is(before) || !seen(t, c).is(before) {
		t.Error("what is done to lists that were given out is seen")
	}
	if v := told(t, r.Check(read(t, "f(s(z)) -> z"))); v != (verdict{code: api.ErrRulesOverlap, why: api.ErrRulesWith, whyAt: 3}) {
		t.Errorf("then %v", v)
	}
}

// R4: a rule that a range gives may be changed on the way.
func TestChangedInARange(t *testing.T) {
	r := filled(t, apart(0, 4)...)
	for range 2 {
		for n, x := range r.All() {
			if !sameRule(x, apart(n, n+1)[0]) {
				t.Errorf("%d: %v", n, x)
			}
			x.Left[0], x.Right[0] = 9, 9
		}
	}
}

// R4: the signature that a store takes stays as it was, whatever the store is asked.
func TestSignatureStays(t *testing.T) {
	s := signature(t)
	r := rules.New(s)
	r.Add(read(t, "f(X) -> X"))
	r.Add(read(t, "f(X) -> X"))
	r.Check([]api.Rule{rule(api.Term{9}, nil)})
	r.Copy().Sig().Add(api.Symbol{Name: "q"})
	var l []api.Symbol
	for _, x := range s.All() {
		l = append(l, x)
	}
	if !slices.Equal(l, symbols()) {
		t.Errorf("%v", l)
	}
}

// R3, R5: what Check answers does not hang on what was refused, or asked, before.
func TestSameEachTime(t *testing.T) {
	r, other := sample(t), sample(t)
	for range 3 {
		for _, o := range ones() {
			l := read(t, o.text)
			v, w := told(t, r.Check(l)), told(t, other.Add(l))
			if v != w || v.code != o.code {
				t.Errorf("%s: %v, %v", o.text, v, w)
			}
		}
	}
	if !seen(t, r).is(seen(t, other)) {
		t.Error("the stores are not alike")
	}
}

// Errors, Limits: the numbers are the document's.
func TestErrorNumbers(t *testing.T) {
	for i, e := range []api.Errno{
		api.ErrRulesMany, api.ErrRulesTerm, api.ErrRulesSide, api.ErrRulesRoot, api.ErrRulesLinear,
		api.ErrRulesBelow, api.ErrRulesFree, api.ErrRulesOverlap, api.ErrRulesWith, api.ErrRulesNone,
	} {
		if int(e) != 70+i || !errors.Is(error(e), api.Errno(70+i)) {
			t.Errorf("%v is not %d", e, 70+i)
		}
	}
	if api.MaxRules != 100 || api.MaxSide != 200 {
		t.Error("limits")
	}
}
