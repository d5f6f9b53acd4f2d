package rules_test

import (
	"math"
	"math/rand"
	"slices"
	"testing"

	"ropewalk/api"
	"ropewalk/match"
	"ropewalk/rules"
	"ropewalk/sig"
	"ropewalk/unify"
)

// P7.1: New of nothing is nothing; else a store without rules.
func TestNew(t *testing.T) {
	if r := rules.New(nil); r != nil {
		t.Errorf("New(nil): %v", r)
	}
	for _, s := range []*sig.Sig{signature(t), sig.New(), {}} {
		r := rules.New(s)
		if r == nil || r.Len() != 0 || r.Sig() == nil || r.Sig() == s || r.Sig().Len() != s.Len() {
			t.Fatalf("New: %v", r)
		}
		if x := seen(t, r); len(x.rules) != 0 {
			t.Errorf("it has %v", x.rules)
		}
	}
}

// P7.1: stores over one signature are stores of their own.
func TestTwoStores(t *testing.T) {
	s := signature(t)
	q, r := rules.New(s), rules.New(s)
	if err := q.Add(read(t, "f(X) -> z")); err != nil || q.Len() != 1 || r.Len() != 0 {
		t.Errorf("%v, %d, %d", err, q.Len(), r.Len())
	}
	if err := r.Add(read(t, "f(z) -> z; f(s(X)) -> X")); err != nil || q.Len() != 1 || r.Len() != 2 {
		t.Errorf("%v, %d, %d", err, q.Len(), r.Len())
	}
}

// P7.1, Types: a store takes its signature: a symbol that is added behind New is seen, by Sig and by the checks.
func TestSymbolsBehindNew(t *testing.T) {
	s := signature(t)
	r := rules.New(s)
	if err := r.Add(read(t, "f(z) -> z")); err != nil {
		t.Fatal(err)
	}
	before := r.Sig()
	late := []api.Rule{rule(api.Term{9, 8, -1}, api.Term{8, 9, -1}), rule(api.Term{3, 8, -1}, api.Term{-1})}
	if v := told(t, r.Check(late)); v != (verdict{code: api.ErrRulesTerm, why: api.ErrTermSymbol}) {
		t.Errorf("symbols that are not there: %v", v)
	}
	s.Add(api.Symbol{Name: "late", Arity: 1})
	if v := told(t, r.Check(late)); v != (verdict{code: api.ErrRulesTerm, why: api.ErrTermSymbol}) {
		t.Errorf("a symbol that is not there: %v", v)
	}
	s.Add(api.Symbol{Name: "later", Arity: 1, Defined: true})
	if err := r.Add(late); err != nil || r.Len() != 3 {
		t.Errorf("symbols that are there: %v, Len %d", err, r.Len())
	}
	if before.Len() != 8 || r.Sig().Len() != 10 {
		t.Errorf("Sig: %d then, %d now", before.Len(), r.Sig().Len())
	}
	if x, e := r.Sig().At(9); x != (api.Symbol{Name: "later", Arity: 1, Defined: true}) || e != api.OK {
		t.Errorf("Sig: %v, %v", x, e)
	}
	if l := r.Of(9); !slices.Equal(l, []int{1}) {
		t.Errorf("Of: %v", l)
	}
	// A symbol of another kind in the same place of an old rule's left side, and of a new one's.
	if v := told(t, r.Check([]api.Rule{rule(api.Term{3, 8, 0}, api.Term{0})})); v != (verdict{code: api.ErrRulesOverlap, why: api.ErrRulesWith, whyAt: 2}) {
		t.Errorf("an overlap: %v", v)
	}
}

// P7.1: what is done to a copy of the signature that Sig gave is not seen.
func TestSigIsACopy(t *testing.T) {
	r := sample(t)
	given := r.Sig()
	given.Add(api.Symbol{Name: "q"})
	if r.Sig().Len() != 8 {
		t.Errorf("Sig has %d", r.Sig().Len())
	}
	if v := told(t, r.Check([]api.Rule{rule(api.Term{5}, api.Term{8})})); v != (verdict{code: api.ErrRulesTerm, why: api.ErrTermSymbol}) {
		t.Errorf("a symbol of the copy: %v", v)
	}
}

// P7.3: the rules stand behind the store's own, in order, just as they are; what is refused changes nothing.
func TestAdd(t *testing.T) {
	r := sample(t)
	l := []api.Rule{rule(api.Term{3, 4, -99, -7}, api.Term{4, -7, -99}), rule(api.Term{5}, api.Term{2, 5, 5}), rule(api.Term{3, 1, -42}, api.Term{-42})}
	if err := r.Add(l); err != nil {
		t.Fatal(err)
	}
	want := append(read(t, "add(z,X) -> X; add(s(X),Y) -> s(add(X,Y))"), l...)
	if x := seen(t, r); !sameRules(x.rules, want) {
		t.Errorf("%v, not %v", x.rules, want)
	}
	before := seen(t, r)
	for _, text := range []string{"f(z) -> z; f(X) -> X", "f(z) -> z; r -> z", "f(z) -> X", "f(z) -> z; s(X) -> X", "add(p(X,Y),Z) -> r; f(p(z,z)) -> z"} {
		check, add := told(t, r.Check(read(t, text))), told(t, r.Add(read(t, text)))
		if check != add || add.code == api.OK {
			t.Errorf("%s: Check %v, Add %v", text, check, add)
		}
		if !seen(t, r).is(before) {
			t.Errorf("%s: the store is changed", text)
		}
	}
	if err := r.Add(read(t, "f(z) -> z; add(p(X,Y),Z) -> r")); err != nil || r.Len() != 7 {
		t.Errorf("%v, Len %d", err, r.Len())
	}
}

// P7.2: Check leaves the store as it is, whatever it answers.
func TestCheckStays(t *testing.T) {
	r := sample(t)
	before := seen(t, r)
	for _, text := range []string{"f(z) -> z", "f(X) -> X; r -> z", "f(z) -> X", "add(X,Y) -> z"} {
		for range 2 {
			r.Check(read(t, text))
			if !seen(t, r).is(before) {
				t.Errorf("%s: the store is changed", text)
			}
		}
	}
}

// P7.4: At, at all numbers.
func TestAt(t *testing.T) {
	for _, r := range []*rules.Store{filled(t), sample(t), filled(t, apart(0, 100)...)} {
		for n := range r.Len() {
			if x, e := r.At(n); e != api.OK || len(x.Left) == 0 {
				t.Errorf("At(%d): %v, %v", n, x, e)
			}
		}
		for _, n := range []int{-1, -2, r.Len(), r.Len() + 1, 1000, math.MinInt, math.MaxInt} {
			if x, e := r.At(n); e != api.ErrRulesNone || x.Left != nil || x.Right != nil {
				t.Errorf("At(%d) of %d: %v, %v", n, r.Len(), x, e)
			}
		}
	}
	want := read(t, "add(z,X) -> X; add(s(X),Y) -> s(add(X,Y))")
	for n, y := range want {
		if x, _ := sample(t).At(n); !sameRule(x, y) {
			t.Errorf("At(%d): %v", n, x)
		}
	}
}

// P7.4: Of, of defined symbols, constructors, and numbers that are no symbol's.
func TestOf(t *testing.T) {
	r := filled(t, read(t, "f(z) -> z; add(z,X) -> X; f(s(X)) -> r; r -> add(z,z); add(s(X),Y) -> f(X); f(p(X,Y)) -> add(X,Y)")...)
	for symbol, want := range map[int][]int{
		2: {1, 4}, 3: {0, 2, 5}, 5: {3}, 7: nil, 0: nil, 1: nil, 4: nil, 8: nil, 100: nil, -1: nil, -2: nil, math.MinInt: nil, math.MaxInt: nil,
	} {
		if l := r.Of(symbol); !slices.Equal(l, want) {
			t.Errorf("Of(%d): %v, not %v", symbol, l, want)
		}
	}
	if l := filled(t).Of(3); len(l) != 0 {
		t.Errorf("Of an empty store: %v", l)
	}
}

// P7.4, R4: All, ended early and ranged over again, and by several at a time.
func TestAll(t *testing.T) {
	r := filled(t, apart(0, 5)...)
	all := r.All()
	for stop := range 6 {
		var met []int
		for n, x := range all {
			if n == stop {
				break
			}
			if !sameRule(x, apart(0, 5)[n]) {
				t.Errorf("%d: %v", n, x)
			}
			met = append(met, n)
		}
		if !slices.Equal(met, []int{0, 1, 2, 3, 4}[:stop]) {
			t.Errorf("ended at %d: %v", stop, met)
		}
	}
	pairs := 0
	for n := range all {
		for m := range all {
			if n == m {
				pairs++
				break
			}
		}
	}
	if pairs != 5 {
		t.Errorf("one range within another: %d", pairs)
	}
	for n, x := range filled(t).All() {
		t.Errorf("of an empty store: %d, %v", n, x)
	}
}

// R4: a range goes through what was there when it began, not when All was called, nor what is added on the way.
func TestAllSeesWhatWasThere(t *testing.T) {
	r := filled(t, apart(0, 1)...)
	all := r.All()
	for _, want := range []int{1, 2, 4, 8, 16} {
		many := 0
		for n, x := range all {
			if !sameRule(x, apart(n, n+1)[0]) {
				t.Errorf("%d: %v", n, x)
			}
			if err := r.Add(apart(r.Len(), r.Len()+1)); err != nil {
				t.Fatal(err)
			}
			many++
		}
		if many != want {
			t.Errorf("%d rules of %d", many, want)
		}
	}
}

// P7.4: a copy has the same; neither sees what is done to the other, or to the other's signature.
func TestCopy(t *testing.T) {
	s := signature(t)
	r := rules.New(s)
	r.Add(read(t, "add(z,X) -> X; add(s(X),Y) -> s(add(X,Y))"))
	c := r.Copy()
	if c == r || !seen(t, c).is(seen(t, r)) {
		t.Fatal("the copy is another one")
	}
	before := seen(t, r)
	if err := c.Add(read(t, "f(z) -> z; r -> z")); err != nil || c.Len() != 4 || !seen(t, r).is(before) {
		t.Errorf("added to the copy: %v", err)
	}
	copied := seen(t, c)
	if err := r.Add(read(t, "f(X) -> X")); err != nil || r.Len() != 3 || !seen(t, c).is(copied) {
		t.Errorf("added to the store: %v", err)
	}
	// What overlaps is asked of the own rules alone.
	if v := told(t, c.Check(read(t, "f(s(X)) -> X; r -> r"))); v != (verdict{code: api.ErrRulesOverlap, at: 1, why: api.ErrRulesWith, whyAt: 3}) {
		t.Errorf("the copy: %v", v)
	}
	if v := told(t, r.Check(read(t, "r -> r; f(s(X)) -> X"))); v != (verdict{code: api.ErrRulesOverlap, at: 1, why: api.ErrRulesWith, whyAt: 2}) {
		t.Errorf("the store: %v", v)
	}
	s.Add(api.Symbol{Name: "late"})
	if c.Sig().Len() != 8 || r.Sig().Len() != 9 {
		t.Errorf("symbols: %d, %d", c.Sig().Len(), r.Sig().Len())
	}
	late := []api.Rule{rule(api.Term{7, 8, -1, -2, -3, -4, -5}, api.Term{8})}
	if v := told(t, c.Add(late)); v != (verdict{code: api.ErrRulesTerm, why: api.ErrTermSymbol}) {
		t.Errorf("a late symbol in the copy: %v", v)
	}
	if err := r.Add(late); err != nil {
		t.Errorf("a late symbol in the store: %v", err)
	}
	if d := r.Copy().Copy(); !seen(t, d).is(seen(t, r)) {
		t.Error("a copy of a copy is another one")
	}
}

// P7.4: stores that grew rule by rule, copied at each length: what comes behind in one is not seen in the other.
func TestCopiesGrowApart(t *testing.T) {
	r := filled(t)
	for n := range 20 {
		if err := r.Add(apart(n, n+1)); err != nil {
			t.Fatal(err)
		}
		one, other := r.Copy(), r.Copy()
		for k, c := range []*rules.Store{one, other} {
			if err := c.Add(apart(50+k, 51+k)); err != nil {
				t.Fatal(err)
			}
		}
		for k, c := range []*rules.Store{one, other} {
			if x := seen(t, c); !sameRules(x.rules, append(apart(0, n+1), apart(50+k, 51+k)...)) {
				t.Errorf("a copy of %d: %v", n+1, x.rules)
			}
		}
		if x := seen(t, r); !sameRules(x.rules, apart(0, n+1)) {
			t.Errorf("the store of %d: %v", n+1, x.rules)
		}
	}
}

// P7.4: a full store's copy, and that of an empty one.
func TestCopyEdges(t *testing.T) {
	full := filled(t, apart(0, 100)...).Copy()
	if v := told(t, full.Add(read(t, "r -> z"))); v != (verdict{code: api.ErrRulesMany}) || full.Len() != 100 {
		t.Errorf("full: %v, Len %d", v, full.Len())
	}
	none := filled(t).Copy()
	if err := none.Add(apart(0, 100)); err != nil || none.Len() != 100 {
		t.Errorf("empty: %v, Len %d", err, none.Len())
	}
}

// closed are all closed terms of z, s, p, f and add with at most so many numbers.
func closed(size int) []api.Term {
	bySize := make([][]api.Term, size+1)
	bySize[1] = []api.Term{{0}}
	for k := 2; k <= size; k++ {
		for _, x := range bySize[k-1] {
			bySize[k] = append(bySize[k], append(api.Term{1}, x...), append(api.Term{3}, x...))
		}
		for left := 1; left <= k-2; left++ {
			for _, x := range bySize[left] {
				for _, y := range bySize[k-1-left] {
					bySize[k] = append(bySize[k], slices.Concat(api.Term{2}, x, y), slices.Concat(api.Term{4}, x, y))
				}
			}
		}
	}
	return slices.Concat(bySize...)
}

// P7.5: of a store that only Add has filled, no two left sides have an instance in common, and at no place more than one rule fits.
func TestOneRuleFits(t *testing.T) {
	seed := rand.New(rand.NewSource(2))
	s := signature(t)
	terms := closed(6)
	fitting := 0
	for range 40 {
		r := filled(t)
		for range 60 {
			r.Add([]api.Rule{grownRule(seed)})
		}
		for n, x := range r.All() {
			for m, y := range r.All() {
				if clash, e := unify.Clash(s, x.Left, y.Left); n != m && !clash || e != api.OK {
					t.Fatalf("%v and %v have an instance in common", x, y)
				}
			}
		}
		for _, u := range terms {
			fits := 0
			for _, x := range r.All() {
				if x.Left[0] != u[0] {
					continue
				}
				if _, ok, e := match.Match(s, x.Left, u, 0); ok && e == api.OK {
					fits++
				}
			}
			if fits > 1 {
				t.Fatalf("%d rules fit %v", fits, u)
			}
			fitting += fits
		}
	}
	if fitting < 1000 {
		t.Errorf("only %d fit", fitting)
	}
}

// P7.5: rules that are taken together are taken one by one, in the same order, too, and the other way round.
func TestTogetherAndOneByOne(t *testing.T) {
	seed := rand.New(rand.NewSource(3))
	taken, refused := 0, 0
	for range 3000 {
		own, l := grownRule(seed), []api.Rule{grownRule(seed), grownRule(seed), grownRule(seed)}[:1+seed.Intn(3)]
		together, single := filled(t), filled(t)
		together.Add([]api.Rule{own})
		single.Add([]api.Rule{own})
		err := together.Add(l)
		ok := true
		for _, x := range l {
			ok = ok && single.Add([]api.Rule{x}) == nil
		}
		if ok != (err == nil) {
			t.Fatalf("%v behind %v: %v, one by one %v", l, own, err, ok)
		}
		if !ok {
			refused++
			continue
		}
		taken++
		if !seen(t, together).is(seen(t, single)) {
			t.Fatalf("%v behind %v: the stores are not alike", l, own)
		}
	}
	if taken < 300 || refused < 300 {
		t.Errorf("%d taken, %d refused", taken, refused)
	}
}

// P7.5: one by one as far as there may be: the 101st is refused, and all together are.
func TestOneByOneToTheLimit(t *testing.T) {
	r := filled(t)
	for n := range 100 {
		if err := r.Add(apart(n, n+1)); err != nil {
			t.Fatalf("%d: %v", n, err)
		}
	}
	if !seen(t, r).is(seen(t, filled(t, apart(0, 100)...))) {
		t.Error("the stores are not alike")
	}
	if v := told(t, r.Add(apart(100, 101))); v != (verdict{code: api.ErrRulesMany}) {
		t.Errorf("one more: %v", v)
	}
}
