package rules_test

import (
	"errors"
	"math/rand"
	"slices"
	"testing"

	"ropewalk/api"
	"ropewalk/rules"
)

// P7.2: the chapter's examples.
func TestExamples(t *testing.T) {
	r := sample(t)
	for _, c := range []struct {
		text string
		want verdict
	}{
		{"s(X) -> z", verdict{code: api.ErrRulesRoot}},
		{"X -> z", verdict{code: api.ErrRulesRoot}},
		{"s(X) -> z; X -> z", verdict{code: api.ErrRulesRoot}},
		{"f(X) -> z; add(X,X) -> X", verdict{code: api.ErrRulesLinear, at: 1}},
		{"add(f(X),Y) -> X", verdict{code: api.ErrRulesBelow}},
		{"f(z) -> X", verdict{code: api.ErrRulesFree}},
		{"f(z) -> z; add(X,z) -> X", verdict{code: api.ErrRulesOverlap, at: 1, why: api.ErrRulesWith, whyAt: 0}},
		{"f(X) -> z; f(s(X)) -> z", verdict{code: api.ErrRulesOverlap, at: 1, why: api.ErrRulesWith, whyAt: 2}},
		{"f(z) -> X; add(X,X) -> X", verdict{code: api.ErrRulesLinear, at: 1}},
		{"f(z) -> z; f(s(X)) -> f(X)", verdict{}},
	} {
		l := read(t, c.text)
		if v := told(t, r.Check(l)); v != c.want {
			t.Errorf("%s: %v, not %v", c.text, v, c.want)
		}
		if v := expected(seen(t, r).rules, l); v != c.want {
			t.Errorf("%s: the tests' own verdict is %v", c.text, v)
		}
	}
}

// P7.2: what is right.
func TestRightOnes(t *testing.T) {
	r := sample(t)
	for _, text := range []string{
		"r -> r", "r -> add(r,f(r))", "f(X) -> X", "f(X) -> p(X,p(X,X))", "f(s(p(X,six(A,B,C,D,E,F)))) -> p(F,A)",
		"f(z) -> add(z,z); f(s(z)) -> f(f(z)); f(s(s(X))) -> X; f(p(X,Y)) -> f(Y)", "g(A,B,C,D,E,F) -> g(F,E,D,C,B,A)",
		"add(p(X,Y),Z) -> Z", "r -> z; f(X) -> r",
	} {
		if err := r.Check(read(t, text)); err != nil {
			t.Errorf("%s: %v", text, err)
		}
	}
	if err := r.Check([]api.Rule{rule(api.Term{3, -99}, api.Term{-99}), rule(api.Term{7, -1, -99, -50, -2, -98, -3}, api.Term{4, -50, -98})}); err != nil {
		t.Errorf("greatest variables: %v", err)
	}
}

// P7.2: no rules at all are right, whatever the store has.
func TestNoRules(t *testing.T) {
	for _, r := range []*rules.Store{filled(t), sample(t), filled(t, apart(0, 100)...)} {
		many := r.Len()
		for _, l := range [][]api.Rule{nil, {}} {
			if err := r.Check(l); err != nil {
				t.Errorf("Check: %v", err)
			}
			if err := r.Add(l); err != nil || r.Len() != many {
				t.Errorf("Add: %v, Len %d", err, r.Len())
			}
		}
	}
}

// P7.2, first check: 100 rules and 101, in one call and in several.
func TestMany(t *testing.T) {
	tooMany := verdict{code: api.ErrRulesMany}
	r := filled(t)
	if v := told(t, r.Check(apart(0, 101))); v != tooMany {
		t.Errorf("101: %v", v)
	}
	if v := told(t, r.Add(apart(0, 101))); v != tooMany || r.Len() != 0 {
		t.Errorf("101: %v, Len %d", v, r.Len())
	}
	if v := told(t, r.Check(apart(0, 100))); v != (verdict{}) {
		t.Errorf("100: %v", v)
	}
	if v := told(t, r.Add(apart(0, 100))); v != (verdict{}) || r.Len() != 100 {
		t.Errorf("100: %v, Len %d", v, r.Len())
	}
	if v := told(t, r.Check(read(t, "r -> z"))); v != tooMany {
		t.Errorf("one more: %v", v)
	}
	several := filled(t, apart(0, 60)...)
	for _, c := range []struct {
		from, to, len int
		want          verdict
	}{
		{60, 101, 60, tooMany}, {60, 99, 99, verdict{}}, {99, 101, 99, tooMany}, {99, 100, 100, verdict{}}, {100, 101, 100, tooMany}, {0, 200, 100, tooMany},
	} {
		if v := told(t, several.Check(apart(c.from, c.to))); v != c.want {
			t.Errorf("from %d to %d: Check: %v", c.from, c.to, v)
		}
		if v := told(t, several.Add(apart(c.from, c.to))); v != c.want || several.Len() != c.len {
			t.Errorf("from %d to %d: Add: %v, Len %d", c.from, c.to, v, several.Len())
		}
	}
	if !seen(t, several).is(seen(t, r)) {
		t.Error("the stores are not alike")
	}
}

// P7.2, second check: a left side, or then a right side, that is no term.
func TestNoTerms(t *testing.T) {
	r := sample(t)
	fine := api.Term{3, 0}
	for _, b := range badTerms() {
		want := verdict{code: api.ErrRulesTerm, why: b.e}
		for _, x := range []api.Rule{rule(b.t, api.Term{0}), rule(fine, b.t), rule(b.t, b.t), rule(api.Term{1, -1}, b.t), rule(chain(3, 201, 0), b.t)} {
			if v := told(t, r.Check([]api.Rule{x})); v != want {
				t.Errorf("%.10v: %v, not %v", x, v, want)
			}
		}
		for _, c := range badTerms() {
			if v := told(t, r.Check([]api.Rule{rule(b.t, c.t)})); v != want {
				t.Errorf("%.10v -> %.10v: %v, not %v", b.t, c.t, v, want)
			}
			// The second rule's left side comes behind the first one's right side.
			if v := told(t, r.Check([]api.Rule{rule(fine, b.t), rule(c.t, b.t)})); v != want {
				t.Errorf("a right side %.10v, a left side %.10v: %v, not %v", b.t, c.t, v, want)
			}
		}
		want.at = 2
		if v := told(t, r.Check([]api.Rule{rule(fine, api.Term{0}), rule(fine, api.Term{0}), rule(fine, b.t), rule(nil, nil)})); v != want {
			t.Errorf("the third one %.10v: %v, not %v", b.t, v, want)
		}
	}
}

// P7.2, third check: sides of 200 numbers and of 201.
func TestSides(t *testing.T) {
	r := filled(t)
	for _, c := range []struct {
		left, right int
		want        verdict
	}{
		{200, 200, verdict{}}, {200, 1, verdict{}}, {2, 200, verdict{}},
		{201, 1, verdict{code: api.ErrRulesSide}}, {2, 201, verdict{code: api.ErrRulesSide}}, {201, 201, verdict{code: api.ErrRulesSide}},
		{2000, 1, verdict{code: api.ErrRulesSide}}, {2, 2000, verdict{code: api.ErrRulesSide}}, {200, 201, verdict{code: api.ErrRulesSide}}, {201, 200, verdict{code: api.ErrRulesSide}},
		{2001, 1, verdict{code: api.ErrRulesTerm, why: api.ErrTermLong}}, {2, 2001, verdict{code: api.ErrRulesTerm, why: api.ErrTermLong}},
	} {
		x := rule(chain(3, c.left, -1), chain(1, c.right, 0))
		for _, r := range []*rules.Store{r, sample(t)} {
			if v := told(t, r.Check([]api.Rule{x})); v != c.want {
				t.Errorf("%d numbers -> %d: %v", c.left, c.right, v)
			}
		}
	}
}

// one is a rule that fails one check alone, over the chapter's store.
type one struct {
	code api.Errno
	text string
}

func ones() []one {
	return []one{
		{api.ErrRulesRoot, "s(X) -> z"}, {api.ErrRulesRoot, "z -> z"}, {api.ErrRulesRoot, "X -> X"}, {api.ErrRulesRoot, "p(X,Y) -> add(X,Y)"},
		{api.ErrRulesLinear, "g(X,z,z,z,z,X) -> z"}, {api.ErrRulesLinear, "f(p(Y,s(p(X,Y)))) -> Y"}, {api.ErrRulesLinear, "g(A,B,C,C,D,E) -> E"},
		{api.ErrRulesBelow, "f(r) -> z"}, {api.ErrRulesBelow, "f(s(f(X))) -> X"}, {api.ErrRulesBelow, "f(f(X)) -> X"}, {api.ErrRulesBelow, "g(A,B,C,D,E,r) -> z"}, {api.ErrRulesBelow, "f(p(z,s(add(X,Y)))) -> z"},
		{api.ErrRulesFree, "f(X) -> Y"}, {api.ErrRulesFree, "r -> X"}, {api.ErrRulesFree, "f(s(X)) -> p(X,p(X,Y))"}, {api.ErrRulesFree, "r -> add(r,X)"},
		{api.ErrRulesOverlap, "add(X,Y) -> z"}, {api.ErrRulesOverlap, "add(z,z) -> z"}, {api.ErrRulesOverlap, "add(z,s(X)) -> X"}, {api.ErrRulesOverlap, "add(X,s(Y)) -> z"}, {api.ErrRulesOverlap, "add(s(s(Y)),X) -> z"},
	}
}

// P7.2: each check by itself: At is the rule's number, wherever it stands, and nothing else is told but where one overlaps.
func TestEachCheck(t *testing.T) {
	r := sample(t)
	fine := read(t, "add(p(A,A1),z) -> z; add(p(A,A1),s(B)) -> z; add(p(A,A1),p(C,D)) -> z")
	for _, o := range ones() {
		x := read(t, o.text)[0]
		want := verdict{code: o.code}
		if o.code == api.ErrRulesOverlap {
			want.why = api.ErrRulesWith
			want.whyAt = map[string]int{"add(s(s(Y)),X) -> z": 1}[o.text]
		}
		for n := range 4 {
			want.at = n
			l := slices.Insert(slices.Clone(fine), n, x)
			if o.text == "add(X,Y) -> z" || o.text == "add(X,s(Y)) -> z" {
				l = l[:n+1] // the others would overlap with it; that comes later, but let it be the one that overlaps
			}
			if v := told(t, r.Check(l)); v != want {
				t.Errorf("%s as number %d: %v, not %v", o.text, n, v, want)
			}
		}
	}
}

// P7.2: several checks that fail: each is made of all rules ahead of the next one.
func TestChecksInOrder(t *testing.T) {
	r := sample(t)
	all := []struct {
		code api.Errno
		x    api.Rule
	}{
		{api.ErrRulesTerm, rule(api.Term{3}, api.Term{0})},
		{api.ErrRulesTerm, rule(api.Term{3, 0}, api.Term{8})},
		{api.ErrRulesSide, rule(chain(3, 201, 0), api.Term{0})},
		{api.ErrRulesSide, rule(api.Term{3, 0}, chain(1, 201, 0))},
	}
	for _, o := range ones() {
		all = append(all, struct {
			code api.Errno
			x    api.Rule
		}{o.code, read(t, o.text)[0]})
	}
	for _, a := range all {
		for _, b := range all {
			l := []api.Rule{rule(api.Term{5}, api.Term{0}), a.x, b.x}
			want, at := a.code, 1
			if b.code < a.code {
				want, at = b.code, 2
			}
			if v := told(t, r.Check(l)); v.code != want || v.at != at {
				t.Errorf("%.10v: %v, not %v at %d", l, v, want, at)
			}
		}
		full := append(slices.Repeat([]api.Rule{rule(api.Term{5}, api.Term{0})}, 98), a.x)
		if v := told(t, r.Check(full)); v != (verdict{code: api.ErrRulesMany}) {
			t.Errorf("101 with %.10v: %v", a.x, v)
		}
	}
}

// P7.2: one rule that fails several checks.
func TestOneRuleFailsMany(t *testing.T) {
	r := sample(t)
	long := append(api.Term{4}, append(chain(1, 200, -1), -1)...) // p(s(s(...(X))),X)
	for _, c := range []struct {
		x    api.Rule
		code api.Errno
	}{
		{rule(long, api.Term{8}), api.ErrRulesTerm},
		{rule(long, api.Term{-2}), api.ErrRulesSide},
		{rule(api.Term{-1}, chain(1, 201, -2)), api.ErrRulesSide},
		{rule(append(api.Term{2}, long[1:]...), api.Term{-2}), api.ErrRulesSide},
		{rule(append(api.Term{3}, long...), api.Term{-2}), api.ErrRulesSide},
		{rule(api.Term{4, -1, -1}, api.Term{-2}), api.ErrRulesRoot},
		{rule(api.Term{4, 5, 5}, api.Term{-2}), api.ErrRulesRoot},
		{rule(api.Term{-1}, api.Term{-2}), api.ErrRulesRoot},
		{rule(api.Term{2, 3, -1, -1}, api.Term{-2}), api.ErrRulesLinear},
		{rule(api.Term{2, 3, -1, 3, -1}, api.Term{-1}), api.ErrRulesLinear},
		{rule(api.Term{2, -1, -1}, api.Term{0}), api.ErrRulesLinear},
		{rule(api.Term{2, 5, -1}, api.Term{-2}), api.ErrRulesBelow},
		{rule(api.Term{2, -1, 5}, api.Term{0}), api.ErrRulesBelow},
		{rule(api.Term{2, -1, -2}, api.Term{-3}), api.ErrRulesFree},
	} {
		want := verdict{code: c.code}
		if c.code == api.ErrRulesTerm {
			want.why = api.ErrTermSymbol
		}
		if v := told(t, r.Check([]api.Rule{c.x})); v != want {
			t.Errorf("%.20v: %v, not %v", c.x, v, want)
		}
	}
}

// P7.2, last check: with which rule: the first one ahead, the store's own ones before those of the list.
func TestOverlaps(t *testing.T) {
	own := "add(z,X) -> X; add(s(X),Y) -> s(add(X,Y)); f(p(z,X)) -> X; f(p(s(Y),X)) -> X"
	for _, c := range []struct {
		text     string
		at, with int
	}{
		{"add(X,Y) -> z", 0, 0}, {"add(s(z),z) -> z", 0, 1}, {"f(X) -> z", 0, 2}, {"f(p(X,Y)) -> z", 0, 2}, {"f(p(s(s(X)),Y)) -> z", 0, 3}, {"f(p(X,z)) -> z", 0, 2},
		{"r -> z; r -> z", 1, 4}, {"r -> z; f(z) -> z; r -> r", 2, 4}, {"r -> z; f(z) -> z; f(s(X)) -> z; f(z) -> f(z)", 3, 5},
		{"f(z) -> z; f(s(X)) -> z; f(X) -> z", 2, 2}, {"f(s(z)) -> z; f(s(s(X))) -> z; f(s(X)) -> z; f(p(z,z)) -> z", 2, 4},
		{"f(z) -> z; f(z) -> z; f(p(z,z)) -> z", 1, 4}, {"g(z,A,B,C,D,E) -> z; g(s(X),A,B,C,D,E) -> z; g(A,B,C,D,E,F) -> z", 2, 4},
		{"g(z,A,B,C,D,E) -> z; g(s(X),A,B,C,D,z) -> z; g(s(X),Y,C,D,E,s(F)) -> z; g(s(z),Y,z,Y1,z,F) -> z", 3, 5},
	} {
		r := filled(t, read(t, own)...)
		want := verdict{code: api.ErrRulesOverlap, at: c.at, why: api.ErrRulesWith, whyAt: c.with}
		if v := told(t, r.Check(read(t, c.text))); v != want {
			t.Errorf("%s: %v, not %v", c.text, v, want)
		}
		if v := told(t, r.Add(read(t, c.text))); v != want || r.Len() != 4 {
			t.Errorf("%s: %v, not %v; Len %d", c.text, v, want, r.Len())
		}
	}
}

// P7.2: a number is another variable in each of two left sides: what would lie in itself, were it one variable, overlaps; what a number in both would keep apart overlaps, too.
func TestOverlapTakesVariablesApart(t *testing.T) {
	r := filled(t, rule(api.Term{2, -1, 1, -2}, api.Term{0}))
	for _, left := range []api.Term{{2, 1, -1, -2}, {2, 1, -2, 1, -1}, {2, -2, -1}, {2, 0, 1, -1}, {2, 1, 1, -1, 1, 0}} {
		if v := told(t, r.Check([]api.Rule{rule(left, api.Term{0})})); v != (verdict{code: api.ErrRulesOverlap, why: api.ErrRulesWith}) {
			t.Errorf("%v: %v", left, v)
		}
	}
	for _, left := range []api.Term{{2, 1, -1, 0}, {2, -2, 4, -1, -3}} {
		if err := r.Check([]api.Rule{rule(left, api.Term{0})}); err != nil {
			t.Errorf("%v: %v", left, err)
		}
	}
}

// P7.2, W5: lists that a seed's numbers choose, with faults of all kinds, held against the tests' own verdict; what is right is added, so that the stores grow.
func TestGrownRules(t *testing.T) {
	seed := rand.New(rand.NewSource(1))
	met := make(map[api.Errno]int)
	for range 400 {
		r := filled(t)
		var own []api.Rule
		for range 12 {
			var l []api.Rule
			for range 1 + seed.Intn(1+seed.Intn(5)) {
				l = append(l, grownRule(seed))
			}
			want := expected(own, l)
			if v := told(t, r.Check(l)); v != want {
				t.Fatalf("of %v\nbehind %v:\n%v, not %v", l, own, v, want)
			}
			if v := told(t, r.Add(l)); v != want {
				t.Fatalf("Add of %v\nbehind %v:\n%v, not %v", l, own, v, want)
			}
			if want.code == api.OK {
				own = append(own, l...)
			}
			met[want.code]++
		}
		if !sameRules(seen(t, r).rules, own) {
			t.Fatalf("the store has %v, not %v", seen(t, r).rules, own)
		}
	}
	for _, e := range []api.Errno{api.OK, api.ErrRulesTerm, api.ErrRulesSide, api.ErrRulesRoot, api.ErrRulesLinear, api.ErrRulesBelow, api.ErrRulesFree, api.ErrRulesOverlap} {
		if met[e] < 30 {
			t.Errorf("%v was met %d times alone", e, met[e])
		}
	}
}

// Errors: errors.Is finds the numbers that a Fault and what it comes of bear, and no other; errors.As finds the Faults; a Fault is another one each time.
func TestFaults(t *testing.T) {
	r := sample(t)
	for _, c := range []struct {
		l    []api.Rule
		want []api.Errno
	}{
		{apart(0, 99), []api.Errno{api.ErrRulesMany}},
		{[]api.Rule{rule(api.Term{8}, api.Term{0})}, []api.Errno{api.ErrRulesTerm, api.ErrTermSymbol}},
		{[]api.Rule{rule(chain(3, 201, 0), api.Term{0})}, []api.Errno{api.ErrRulesSide}},
		{read(t, "s(X) -> X"), []api.Errno{api.ErrRulesRoot}},
		{read(t, "add(X,X) -> X"), []api.Errno{api.ErrRulesLinear}},
		{read(t, "f(r) -> z"), []api.Errno{api.ErrRulesBelow}},
		{read(t, "r -> X"), []api.Errno{api.ErrRulesFree}},
		{read(t, "r -> z; add(X,Y) -> X"), []api.Errno{api.ErrRulesOverlap, api.ErrRulesWith}},
	} {
		for _, call := range []func([]api.Rule) error{r.Check, r.Add} {
			err, other := call(c.l), call(c.l)
			if !bears(err, c.want...) {
				t.Errorf("%v bears other numbers than %v", err, c.want)
			}
			var f, g *api.Fault
			if !errors.As(err, &f) || !errors.As(other, &g) || f == g || f.Code != c.want[0] {
				t.Fatalf("%v, %v", err, other)
			}
			var under, otherUnder *api.Fault
			if errors.As(f.Why, &under) != (f.Code == api.ErrRulesOverlap) || errors.As(g.Why, &otherUnder) && under == otherUnder {
				t.Errorf("%v, %v: beneath", err, other)
			}
		}
	}
}
