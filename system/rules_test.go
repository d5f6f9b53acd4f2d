package system_test

import (
	"math"
	"slices"
	"strings"
	"testing"

	"ropewalk/api"
	"ropewalk/system"
)

// P10.3: rules stand behind the system's own, just as they are; each call that takes one or more makes the Version one more.
func TestAddRules(t *testing.T) {
	y := filled(t)
	calls := []string{"h -> add(z,z)", sum, "f(z,a,X) -> X; g(X,Y,Z) -> f(Z,Y,X); f(a,X,z) -> k(X)", "k(X) -> X"}
	var all []api.Rule
	for n, text := range calls {
		taken(t, y.AddRules(read(t, text)))
		all = append(all, read(t, text)...)
		if y.Version() != n+1 || shownRules(rulesOf(y)) != shownRules(all) {
			t.Errorf("%s: Version %d, %s", text, y.Version(), shownRules(rulesOf(y)))
		}
		if whole(t, y) != (model{symbols(t, declared), all, n + 1}).whole(t) {
			t.Errorf("%s: %s", text, whole(t, y))
		}
	}
	// The variables keep their numbers.
	y = filled(t)
	odd := []api.Rule{rule(api.Term{add, p, -99, -7, -42}, api.Term{p, -42, -99}), rule(api.Term{h}, api.Term{h})}
	taken(t, y.AddRules(odd))
	if shownRules(rulesOf(y)) != shownRules(odd) {
		t.Errorf("%s", shownRules(rulesOf(y)))
	}
}

// P10.3: no rules are taken, and change nothing, the Version neither.
func TestAddNoRules(t *testing.T) {
	full := filled(t)
	taken(t, full.AddRules(apart(0, 100)))
	for _, y := range []*system.System{system.New(), filled(t), filled(t, sum, "h -> z"), full} {
		before := whole(t, y)
		taken(t, y.AddRules(nil))
		taken(t, y.AddRules([]api.Rule{}))
		taken(t, y.AddRules(apart(0, 3)[:0]))
		if whole(t, y) != before {
			t.Error("none changes something")
		}
	}
}

// P10.3: 100 rules and one more, in one call, in several, and one by one.
func TestHundredRules(t *testing.T) {
	once, parts, single := filled(t), filled(t), filled(t)
	before := whole(t, once)
	refused(t, once.AddRules(apart(0, 101)), "101@0 70@0")
	// It is named ahead of what is wrong with the rules themselves.
	refused(t, once.AddRules(make([]api.Rule, 101)), "101@0 70@0")
	if whole(t, once) != before {
		t.Error("101 rules change something")
	}
	taken(t, once.AddRules(apart(0, 100)))
	taken(t, parts.AddRules(apart(0, 97)))
	refused(t, parts.AddRules(apart(97, 101)), "101@0 70@0")
	taken(t, parts.AddRules(apart(97, 100)))
	for n := range 100 {
		taken(t, single.AddRules(apart(n, n+1)))
	}
	for version, y := range map[int]*system.System{1: once, 2: parts, 100: single} {
		want := (model{symbols(t, declared), apart(0, 100), version}).whole(t)
		refused(t, y.AddRules(read(t, "h -> z")), "101@0 70@0")
		refused(t, y.AddRules(apart(100, 102)), "101@0 70@0")
		refused(t, y.AddRules(read(t, three("f"))), "101@0 70@0")
		if whole(t, y) != want {
			t.Errorf("Version %d: %s", y.Version(), whole(t, y))
		}
		// Symbols may come behind 100 rules.
		taken(t, y.AddSymbols(symbols(t, "con late/0")))
		if y.Rules().Len() != 100 || y.Sig().Len() != k+2 || y.Version() != version {
			t.Errorf("behind a symbol: %d rules, %d symbols", y.Rules().Len(), y.Sig().Len())
		}
	}
}

// P10.3: what a store refuses: each of its errors, with At and all that it comes of; nothing is changed.
func TestRulesRefused(t *testing.T) {
	long := slices.Concat(api.Term{k}, slices.Repeat(api.Term{s}, 198), api.Term{z})
	tooLong := slices.Concat(api.Term{k}, slices.Repeat(api.Term{s}, 199), api.Term{z})
	good := read(t, "h -> z")[0]
	for _, x := range []struct {
		l    []api.Rule
		want string
	}{
		{make([]api.Rule, 99), "101@0 70@0"},
		{[]api.Rule{{}}, "101@0 71@0 23"},
		{[]api.Rule{good, rule(api.Term{k, z}, nil)}, "101@1 71@1 23"},
		{[]api.Rule{rule(api.Term{k, z}, api.Term{k + 1})}, "101@0 71@0 21"},
		{[]api.Rule{rule(api.Term{k, math.MaxInt}, api.Term{z})}, "101@0 71@0 21"},
		{[]api.Rule{good, good, rule(api.Term{k, -100}, api.Term{z})}, "101@2 71@2 22"},
		{[]api.Rule{rule(api.Term{k, math.MinInt}, api.Term{z})}, "101@0 71@0 22"},
		{[]api.Rule{rule(api.Term{k, z, z}, api.Term{z})}, "101@0 71@0 23"},
		{[]api.Rule{rule(api.Term{k, z}, make(api.Term, 2001))}, "101@0 71@0 20"},
		{[]api.Rule{good, rule(tooLong, api.Term{z})}, "101@1 72@1"},
		{[]api.Rule{rule(api.Term{k, z}, tooLong)}, "101@0 72@0"},
		{[]api.Rule{good, rule(api.Term{s, -1}, api.Term{z})}, "101@1 73@1"},
		{[]api.Rule{rule(api.Term{-1}, api.Term{z})}, "101@0 73@0"},
		{read(t, "k(z) -> z; f(X,Y,X) -> X"), "101@1 74@1"},
		{read(t, "k(z) -> z; h -> z; k(h) -> z"), "101@2 75@2"},
		{[]api.Rule{rule(api.Term{k, -1}, api.Term{-2})}, "101@0 76@0"},
		{read(t, "h -> z; add(X,z) -> X"), "101@1 77@1 78@0"},
		{read(t, "h -> z; add(s(X),s(X1)) -> X"), "101@1 77@1 78@1"},
		{read(t, "k(X) -> z; h -> z; k(s(X)) -> z"), "101@2 77@2 78@2"},
		{read(t, "h -> z; h -> z"), "101@1 77@1 78@2"},
		// The first check that fails is told, not the first rule that fails one.
		{read(t, "add(X,z) -> X; k(h) -> z; f(X,Y,X) -> X"), "101@2 74@2"},
		// A store's refusal is told ahead of a symbol without a case tree.
		{read(t, three("f")+"; add(X,z) -> X"), "101@3 77@3 78@0"},
		{read(t, three("f")+"; f(X,Y,a) -> X"), "101@3 77@3 78@2"},
		{read(t, three("f")+"; f(a,z,z) -> z"), "101@3 77@3 78@3"},
	} {
		y := filled(t, sum)
		before := whole(t, y)
		for range 2 {
			err := y.AddRules(x.l)
			refused(t, err, x.want)
			bears(t, err)
			check := told(t, y.Rules().Check(x.l))
			if _, why, _ := strings.Cut(told(t, err), " "); why != check {
				t.Errorf("%s; Check tells %s", told(t, err), check)
			}
			if whole(t, y) != before {
				t.Errorf("%s: it is changed", x.want)
			}
		}
		taken(t, y.AddRules([]api.Rule{rule(long, long), good}))
		if y.Version() != 2 || y.Rules().Len() != 4 {
			t.Errorf("behind %s: %s", x.want, whole(t, y))
		}
	}
}

// P10.3: the first defined symbol, by rising numbers, that has no case tree by all rules then.
func TestNoCaseTree(t *testing.T) {
	for _, x := range []struct {
		own       []string
		rules     string
		want      string
		elsewhere string // what is taken instead
	}{
		{nil, three("f"), "102@4 81@4 82@0", "f(z,a,X) -> z; f(a,X,z) -> z"},
		{[]string{sum}, three("f"), "102@4 81@4 82@2", "f(z,a,X) -> z; f(a,X,z) -> z"},
		{[]string{sum}, three("g"), "102@7 81@7 82@2", three("g")[:len("g(z,a,X) -> z")]},
		// Both symbols fork: the one of the lesser number is told, whichever came first in the list.
		{[]string{sum}, three("f") + "; " + three("g"), "102@4 81@4 82@2", "k(X) -> X"},
		{[]string{sum}, three("g") + "; " + three("f"), "102@4 81@4 82@5", "k(X) -> X"},
		// The rules that fork are old ones and new ones.
		{[]string{"f(z,a,X) -> z", "h -> z; f(a,X,z) -> z"}, "f(X,z,a) -> z", "102@4 81@4 82@0", "f(z,s(X),Y) -> z"},
		{[]string{"h -> z; g(X,z,a) -> z"}, "g(a,X,z) -> z; k(X) -> z; g(z,a,X) -> h", "102@7 81@7 82@1", "g(a,X,z) -> z"},
		// The fork is deeper: behind branches, and where another kid has a leaf.
		{[]string{"h -> z"}, "f(X,p(z,a),z) -> z; f(z,p(X,z),z) -> z; f(a,p(a,X),z) -> z", "102@4 81@4 82@1", "f(z,p(X,z),z) -> z"},
		{[]string{"k(X) -> z; g(z,z,z) -> z"}, "g(s(X),z,a) -> z; g(s(z),X,z) -> z; g(s(a),a,X) -> z", "102@7 81@7 82@2", "h -> h"},
	} {
		y := filled(t, x.own...)
		before := whole(t, y)
		for range 2 {
			err := y.AddRules(read(t, x.rules))
			refused(t, err, x.want)
			bears(t, err)
			if whole(t, y) != before {
				t.Errorf("%s: it is changed", x.rules)
			}
		}
		taken(t, y.AddRules(read(t, x.elsewhere)))
		if y.Version() != len(x.own)+1 {
			t.Errorf("%s: Version %d", x.elsewhere, y.Version())
		}
	}
}

// P10.3, W5: rules that are taken in one call are taken one by one, too: all that is told is the same, but for the Version.
func TestOneByOne(t *testing.T) {
	text := "f(z,a,X) -> z; " + sum + "; f(a,X,z) -> z; k(s(X)) -> k(X); g(p(X,Y),Z,z) -> f(X,Y,Z); k(z) -> h"
	once, single := filled(t, text), filled(t)
	for _, x := range read(t, text) {
		taken(t, single.AddRules([]api.Rule{x}))
	}
	if seen(t, once) != seen(t, single) || once.Version() != 1 || single.Version() != 7 {
		t.Errorf("%s\n%s", whole(t, once), whole(t, single))
	}
	// Of those that fork together, the last one alone is refused.
	single = filled(t)
	l := read(t, three("f"))
	taken(t, single.AddRules(l[:1]))
	taken(t, single.AddRules(l[1:2]))
	refused(t, single.AddRules(l[2:]), "102@4 81@4 82@0")
	if single.Version() != 2 || single.Rules().Len() != 2 {
		t.Errorf("%s", whole(t, single))
	}
}

// P10.2, P10.3: rules that a later symbol makes possible.
func TestLaterSymbol(t *testing.T) {
	y := filled(t, sum)
	late := []api.Rule{rule(api.Term{add, k + 1, -1, -2}, api.Term{k + 2, -2}), rule(api.Term{k + 2, -1}, api.Term{k + 1, -1})}
	refused(t, y.AddRules(late), "101@0 71@0 21")
	taken(t, y.AddSymbols(symbols(t, "con late/1")))
	refused(t, y.AddRules(late), "101@0 71@0 21")
	refused(t, y.AddSymbols(symbols(t, "con later/1, late/1")), "100@1 12")
	refused(t, y.AddRules(late), "101@0 71@0 21")
	taken(t, y.AddSymbols(symbols(t, "fun later/1")))
	taken(t, y.AddRules(late))
	want := model{slices.Concat(symbols(t, declared), symbols(t, "con late/1; fun later/1")), slices.Concat(read(t, sum), late), 2}
	if whole(t, y) != want.whole(t) {
		t.Errorf("%s", whole(t, y))
	}
	// A constructor may not be a rule's root, a later one neither.
	refused(t, y.AddRules([]api.Rule{rule(api.Term{k + 1, -1}, api.Term{-1})}), "101@0 73@0")
	// The old rules are held against the new symbol.
	refused(t, y.AddRules([]api.Rule{rule(api.Term{add, k + 1, z, z}, api.Term{z})}), "101@0 77@0 78@2")
}

// W5: the error is that of the first condition that does not hold, in the order that the document has them.
func TestOrderOfAcceptance(t *testing.T) {
	y := filled(t, sum)
	tooLong := slices.Concat(api.Term{k}, slices.Repeat(api.Term{s}, 199), api.Term{z})
	broken := []struct {
		rule api.Rule
		want string
	}{
		{rule(api.Term{k}, api.Term{z}), "71"},
		{rule(tooLong, api.Term{z}), "72"},
		{rule(api.Term{s, -1}, api.Term{z}), "73"},
		{rule(api.Term{f, -1, -1, z}, api.Term{z}), "74"},
		{rule(api.Term{k, h}, api.Term{z}), "75"},
		{rule(api.Term{h}, api.Term{-1}), "76"},
		{rule(api.Term{add, -1, -2}, api.Term{z}), "77"},
	}
	// From the last broken condition on, others come ahead of it, at the list's end: the one that the document names first is told.
	l := read(t, three("f"))
	refused(t, y.AddRules(l), "102@4 81@4 82@2")
	for _, x := range slices.Backward(broken) {
		l = append(l, x.rule)
		err := y.AddRules(l)
		if got := strings.Fields(told(t, err))[1]; !strings.HasPrefix(got, x.want+"@") {
			t.Errorf("%s, not %s", told(t, err), x.want)
		}
		var at int
		if x, ok := err.(*api.Fault); ok {
			at = x.At
		}
		if at != len(l)-1 {
			t.Errorf("%s: not At %d", told(t, err), len(l)-1)
		}
	}
	refused(t, y.AddRules(slices.Concat(l, make([]api.Rule, 99))), "101@0 70@0")
	if whole(t, y) != whole(t, filled(t, sum)) {
		t.Error("it is changed")
	}
}
