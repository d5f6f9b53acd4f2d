package system_test

import (
	"math"
	"slices"
	"testing"

	"ropewalk/api"
	"ropewalk/code"
	"ropewalk/system"
	"ropewalk/tree"
)

// P10.4: Sig gives out a copy: neither sees what is done to the other.
func TestSigIsACopy(t *testing.T) {
	y := filled(t, sum)
	before := whole(t, y)
	given := y.Sig()
	for _, x := range many(0, 3) {
		given.Add(x)
	}
	if whole(t, y) != before || given.Len() != k+4 || y.Sig() == given {
		t.Error("what is added to the copy is seen")
	}
	taken(t, y.AddSymbols(symbols(t, "con m0/2, late/0")))
	x, e := y.Sig().At(k + 1)
	if x != (api.Symbol{Name: "m0", Arity: 2}) || e != api.OK || y.Sig().Len() != k+3 {
		t.Errorf("%v, %v", x, e)
	}
	if got := shownSymbols(symbolsOf(given)); got != shownSymbols(slices.Concat(symbols(t, declared), many(0, 3))) {
		t.Errorf("what is added to the system is seen: %s", got)
	}
	// A range that has begun goes through what was there.
	met := 0
	for range y.Sig().All() {
		taken(t, y.AddSymbols(many(10+met, 11+met)))
		met++
	}
	if met != k+3 {
		t.Errorf("%d met", met)
	}
}

// P10.4: Rules gives out a copy, over a copy of the signature: neither sees what is done to the other.
func TestRulesIsACopy(t *testing.T) {
	y := filled(t, sum)
	before := whole(t, y)
	given := y.Rules()
	taken(t, given.Add(read(t, "h -> z; "+three("f")))) // a store takes what a system does not
	given.Sig().Add(api.Symbol{Name: "q"})
	if whole(t, y) != before || given.Len() != 6 || y.Rules() == given {
		t.Error("what is added to the copy is seen")
	}
	taken(t, y.AddRules(read(t, "h -> k(z); k(X) -> X; g(X,Y,Z) -> X")))
	taken(t, y.AddSymbols(symbols(t, "con late/0")))
	if given.Len() != 6 || given.Sig().Len() != k+1 {
		t.Errorf("%d rules, %d symbols", given.Len(), given.Sig().Len())
	}
	if x, e := given.At(2); e != api.OK || shownRules([]api.Rule{x}) != shownRules(read(t, "h -> z")) {
		t.Errorf("what is added to the system is seen: %v", x)
	}
	refused(t, given.Check([]api.Rule{rule(api.Term{k, k + 1}, api.Term{z})}), "71@0 21")
	// Its lists are its own, too.
	for n := range y.Rules().Len() {
		x, _ := y.Rules().At(n)
		spoil(x.Left)
		spoil(x.Right)
	}
	for _, x := range y.Rules().All() {
		spoil(x.Left)
	}
	if got := shownRules(rulesOf(y)); got != shownRules(read(t, sum+"; h -> k(z); k(X) -> X; g(X,Y,Z) -> X")) {
		t.Errorf("%s", got)
	}
	// A range that has begun goes through what was there.
	y = filled(t)
	taken(t, y.AddRules(apart(0, 2)))
	met := 0
	for range y.Rules().All() {
		taken(t, y.AddRules(apart(2+met, 3+met)))
		met++
	}
	if met != 2 || y.Rules().Len() != 4 {
		t.Errorf("%d met of %d", met, y.Rules().Len())
	}
}

// spoil fills a list, its spare room too, with what stands nowhere else.
func spoil[L ~[]int](l L) {
	l = l[:cap(l)]
	for i := range l {
		l[i] = -7777
	}
}

// spoilCase spoils all lists of a case tree.
func spoilCase(c api.Case) {
	spoil(c.Path)
	for i, x := range c.Kids {
		spoilCase(x.Case)
		c.Kids[i] = api.Kid{Symbol: -7777}
	}
}

// spoilCode spoils all lists of a Code.
func spoilCode(c api.Code) {
	for i := range c.Ins {
		c.Ins[i] = api.Ins{Op: -7777, A: -7777, B: -7777}
	}
	for i, x := range c.Paths {
		spoil(x)
		c.Paths[i] = nil
	}
	spoil(c.Entry)
	for i, l := range c.Rights {
		for j, x := range l {
			spoil(x.Path)
			l[j] = api.Part{Symbol: -7777}
		}
		c.Rights[i] = nil
	}
}

// P10.4: Code and Tree are those of the rules, and new memory each time.
func TestCodeAndTree(t *testing.T) {
	y := filled(t, sum, "f(z,a,X) -> p(X,X); f(a,X,z) -> X", "g(X,p(Y,z),s(Z)) -> p(Z,Y); g(X,z,s(Z)) -> h; k(s(s(X))) -> X")
	store := storeOf(t, symbols(t, declared), read(t, sum+"; f(z,a,X) -> p(X,X); f(a,X,z) -> X; g(X,p(Y,z),s(Z)) -> p(Z,Y); g(X,z,s(Z)) -> h; k(s(s(X))) -> X"))
	want, err := code.Compile(store)
	taken(t, err)
	before := whole(t, y)
	for range 3 {
		one, other := y.Code(), y.Code()
		if shownCode(one) != shownCode(want) {
			t.Fatalf("Code: %s", shownCode(one))
		}
		spoilCode(one)
		if shownCode(other) != shownCode(want) || whole(t, y) != before {
			t.Fatal("two Codes share memory")
		}
		for symbol := range k + 1 {
			one, err := y.Tree(symbol)
			other, _ := y.Tree(symbol)
			want, why := tree.Build(store, symbol)
			if shownCase(one) != shownCase(want) || told(t, err) != told(t, why) {
				t.Fatalf("Tree(%d): %s, %v", symbol, shownCase(one), err)
			}
			spoilCase(one)
			if shownCase(other) != shownCase(want) || whole(t, y) != before {
				t.Fatal("two case trees share memory")
			}
		}
	}
	// What was given out earlier stays when rules and symbols come.
	given, c := y.Code(), shownCode(y.Code())
	tree, _ := y.Tree(k)
	shown := shownCase(tree)
	taken(t, y.AddRules(read(t, "k(z) -> z; h -> h")))
	taken(t, y.AddSymbols(symbols(t, "fun late/3")))
	if shownCode(given) != c || shownCase(tree) != shown {
		t.Error("what was given out is changed")
	}
	if now, _ := y.Tree(k); shownCase(now) == shown || shownCode(y.Code()) == c {
		t.Error("what came is not seen")
	}
}

// P10.4: Tree of numbers that are no defined symbol's.
func TestTreeOfOthers(t *testing.T) {
	for _, y := range []*system.System{system.New(), filled(t), filled(t, sum)} {
		for _, symbol := range []int{z, s, a, p, -1, -2, k + 1, k + 2, 64, 1000, math.MinInt, math.MaxInt} {
			c, err := y.Tree(symbol)
			refused(t, err, "80@0")
			bears(t, err)
			if c.Kind != 0 || c.Rule != 0 || len(c.Path) != 0 || len(c.Kids) != 0 {
				t.Errorf("Tree(%d): %v", symbol, c)
			}
		}
	}
	y := filled(t)
	for _, symbol := range []int{add, f, h, g, k} {
		if c, err := y.Tree(symbol); err != nil || shownCase(c) != "(3 0 [])" {
			t.Errorf("Tree(%d): %v, %v", symbol, c, err)
		}
	}
}

// P10.4: Version counts the calls of AddRules that took one rule or more, and nothing else.
func TestVersion(t *testing.T) {
	y := filled(t)
	at := func(want int) {
		t.Helper()
		if y.Version() != want {
			t.Errorf("Version %d, not %d", y.Version(), want)
		}
	}
	at(0)
	taken(t, y.AddRules(read(t, sum)))
	at(1)
	taken(t, y.AddRules(nil))
	at(1)
	refused(t, y.AddRules(read(t, sum)), "101@0 77@0 78@0")
	refused(t, y.AddRules(read(t, three("f"))), "102@4 81@4 82@2")
	at(1)
	taken(t, y.AddSymbols(symbols(t, "con q/0; fun late/0")))
	refused(t, y.AddSymbols(symbols(t, "con q/0")), "100@0 12")
	at(1)
	taken(t, y.AddRules([]api.Rule{rule(api.Term{k + 2}, api.Term{k + 1})}))
	at(2)
	y.Code()
	y.Tree(add)
	y.Rules().Add(read(t, "h -> z"))
	at(2)
	y = y.Copy()
	at(2)
	taken(t, y.AddRules(read(t, "h -> z; k(X) -> X; g(X,Y,Z) -> X")))
	at(3)
}

// P10.4: a copy has all the same; neither sees what is done to the other.
func TestCopy(t *testing.T) {
	y := filled(t, sum, "h -> z")
	c := y.Copy()
	before := whole(t, y)
	if c == y || whole(t, c) != before {
		t.Fatalf("%s", whole(t, c))
	}
	taken(t, c.AddSymbols(symbols(t, "con late/2; fun later/0")))
	taken(t, c.AddRules(read(t, "f(z,a,X) -> z")))
	taken(t, c.AddRules(read(t, "f(a,X,z) -> z; k(X) -> X")))
	if whole(t, y) != before {
		t.Error("the system sees what is done to the copy")
	}
	copied := whole(t, c)
	taken(t, y.AddSymbols(symbols(t, "fun late/0")))
	taken(t, y.AddRules([]api.Rule{rule(api.Term{k + 1}, api.Term{z})}))
	taken(t, y.AddRules(read(t, "f(X,z,a) -> z")))
	if whole(t, c) != copied || y.Version() != 4 || c.Version() != 4 {
		t.Error("the copy sees what is done to the system")
	}
	// What overlaps and what forks is asked of the own rules alone.
	refused(t, c.AddRules(read(t, "f(X,z,a) -> z")), "102@4 81@4 82@3")
	refused(t, y.AddRules(read(t, "f(z,a,X) -> z; f(a,X,z) -> z")), "102@4 81@4 82@4")
	refused(t, c.AddRules(read(t, "h -> z; k(X) -> X")), "101@0 77@0 78@2")
	taken(t, y.AddRules(read(t, "k(z) -> z")))
	refused(t, c.AddRules(read(t, "k(z) -> z")), "101@0 77@0 78@5")
	if whole(t, c) != copied {
		t.Error("a refusal changes the copy")
	}
	if d := c.Copy().Copy(); whole(t, d) != copied {
		t.Error("a copy of a copy is another one")
	}
}

// P10.4: copies at all times, the edges among them: none of anything, the most of everything.
func TestCopyEdges(t *testing.T) {
	none := system.New().Copy()
	if whole(t, none) != whole(t, system.New()) {
		t.Errorf("%s", whole(t, none))
	}
	taken(t, none.AddSymbols(symbols(t, declared)))
	taken(t, none.AddRules(read(t, sum)))
	full := filled(t)
	taken(t, full.AddSymbols(many(0, 55)))
	taken(t, full.AddRules(apart(0, 100)))
	c := full.Copy()
	if whole(t, c) != whole(t, full) {
		t.Error("a full one's copy is another one")
	}
	refused(t, c.AddSymbols(symbols(t, "con q/0")), "100@0 13")
	refused(t, c.AddRules(read(t, "h -> z")), "101@0 70@0")
}

// P10.4: systems that grow step by step, copied at each one: what comes behind in one is not seen in the others.
func TestCopiesGrowApart(t *testing.T) {
	y := filled(t)
	for n := range 12 {
		taken(t, y.AddRules(apart(n, n+1)))
		taken(t, y.AddSymbols(many(n, n+1)))
		want := whole(t, y)
		copies := []*system.System{y.Copy(), y.Copy()}
		for i, c := range copies {
			taken(t, c.AddRules(apart(50+i, 51+i)))
			taken(t, c.AddSymbols(many(40+i, 41+i)))
		}
		for i, c := range copies {
			m := model{slices.Concat(symbols(t, declared), many(0, n+1), many(40+i, 41+i)), slices.Concat(apart(0, n+1), apart(50+i, 51+i)), n + 2}
			if whole(t, c) != m.whole(t) {
				t.Fatalf("the %d. copy at %d: %s", i, n, whole(t, c))
			}
		}
		if whole(t, y) != want {
			t.Fatalf("at %d: %s", n, whole(t, y))
		}
	}
}
