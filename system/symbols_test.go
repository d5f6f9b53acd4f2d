package system_test

import (
	"math"
	"testing"

	"ropewalk/api"
	"ropewalk/system"
)

// P10.1: a new system has no symbols, no rules, and the Version 0.
func TestNew(t *testing.T) {
	y := system.New()
	if y == nil {
		t.Fatal("New is nil")
	}
	if y.Version() != 0 || y.Sig().Len() != 0 || y.Rules().Len() != 0 || shownCode(y.Code()) != shownCode(api.Code{}) {
		t.Errorf("New: %s", whole(t, y))
	}
	if whole(t, y) != (model{}).whole(t) {
		t.Errorf("New: %s", whole(t, y))
	}
	for _, symbol := range []int{0, 1, -1} {
		_, err := y.Tree(symbol)
		refused(t, err, "80@0")
	}
	refused(t, y.AddRules([]api.Rule{rule(api.Term{0}, api.Term{0})}), "101@0 71@0 21")
	// What one is told, another one is not.
	taken(t, y.AddSymbols(symbols(t, declared)))
	taken(t, y.AddRules(read(t, sum)))
	if system.New().Sig().Len() != 0 || system.New().Rules().Len() != 0 || system.New().Version() != 0 {
		t.Error("another New has something")
	}
}

// The chapter's examples.
func TestExamples(t *testing.T) {
	y := system.New()
	taken(t, y.AddSymbols(symbols(t, "con z/0, s/1; fun add/2")))
	refused(t, y.AddSymbols(symbols(t, "con q/0, z/0")), "100@1 12")
	refused(t, y.AddSymbols([]api.Symbol{{Name: "q", Arity: 9}}), "100@0 11")
	taken(t, y.AddRules(read(t, sum)))
	if y.Version() != 1 {
		t.Errorf("Version %d", y.Version())
	}
	refused(t, y.AddRules(read(t, "add(X,z) -> z")), "101@0 77@0 78@0")
	taken(t, y.AddRules(nil))
	if y.Version() != 1 {
		t.Errorf("Version %d", y.Version())
	}
	taken(t, y.AddSymbols(symbols(t, "con a/0; fun f/3")))
	refused(t, y.AddRules(read(t, three("f"))), "102@4 81@4 82@2")
	c, err := y.Tree(add)
	taken(t, err)
	if got := shownCase(c); got != "(2 0 [0] 0:(1 0 []) 1:(1 1 []))" {
		t.Errorf("Tree: %s", got)
	}
	if got := shownCode(y.Code()); got != "ins [1 0 0] [2 0 4] [2 1 5] [3 0 0] [4 0 0] [4 1 0] [3 0 0] paths [0] entry [-1 -1 0 -1 6] rights; -1[1]; 1[] 2[] -1[0 0] -1[1]" {
		t.Errorf("Code: %s", got)
	}
}

// The examples of the whole: rules that are not linear, and rules without a case tree.
func TestExampleOfTheWhole(t *testing.T) {
	y := system.New()
	taken(t, y.AddSymbols(symbols(t, "con a/0, b/0; fun f/3")))
	one, two, three := rule(api.Term{2, 0, 1, -1}, api.Term{-1}), rule(api.Term{2, 1, -1, 0}, api.Term{-1}), rule(api.Term{2, -1, 0, 1}, api.Term{-1})
	refused(t, y.AddRules([]api.Rule{rule(api.Term{2, -1, -1, -2}, api.Term{-1})}), "101@0 74@0")
	refused(t, y.AddRules([]api.Rule{one, two, three}), "102@2 81@2 82@0")
	taken(t, y.AddRules([]api.Rule{one, two}))
	if y.Version() != 1 || y.Rules().Len() != 2 {
		t.Errorf("%s", whole(t, y))
	}
}

// P10.2: symbols stand behind the system's own, in the order in which they came; the Version and the rules stay.
func TestAddSymbols(t *testing.T) {
	y := system.New()
	taken(t, y.AddSymbols(symbols(t, "con z/0, s/1; fun add/2")))
	taken(t, y.AddRules(read(t, sum)))
	taken(t, y.AddSymbols(symbols(t, "con a/0; fun f/3")))
	taken(t, y.AddSymbols(symbols(t, "con p/2; fun h/0, g/3")))
	taken(t, y.AddSymbols(symbols(t, "fun k/1")))
	if got := shownSymbols(symbolsOf(y.Sig())); got != shownSymbols(symbols(t, declared)) {
		t.Errorf("%s", got)
	}
	if got := shownRules(rulesOf(y)); got != shownRules(read(t, sum)) || y.Version() != 1 {
		t.Errorf("%s, Version %d", got, y.Version())
	}
	for n, x := range symbols(t, declared) {
		if m, e := y.Sig().Find(x.Name); m != n || e != api.OK {
			t.Errorf("Find(%s): %d, %v", x.Name, m, e)
		}
	}
	if seen(t, y) != seen(t, filled(t, sum)) {
		t.Error("in one call it is another one")
	}
}

// P10.2: no symbols are taken, at any time, and change nothing.
func TestAddNoSymbols(t *testing.T) {
	full := system.New()
	taken(t, full.AddSymbols(many(0, 64)))
	for _, y := range []*system.System{system.New(), filled(t), filled(t, sum), full} {
		before := whole(t, y)
		taken(t, y.AddSymbols(nil))
		taken(t, y.AddSymbols([]api.Symbol{}))
		taken(t, y.AddSymbols(many(0, 64)[:0]))
		if whole(t, y) != before {
			t.Error("none changes something")
		}
	}
}

// P10.2: 64 symbols and one more, in one call, in several, and one by one.
func TestSixtyFourSymbols(t *testing.T) {
	once, parts, single := system.New(), system.New(), system.New()
	refused(t, once.AddSymbols(many(0, 65)), "100@64 13")
	refused(t, once.AddSymbols(many(0, 200)), "100@64 13")
	if once.Sig().Len() != 0 {
		t.Fatalf("%d symbols", once.Sig().Len())
	}
	taken(t, once.AddSymbols(many(0, 64)))
	taken(t, parts.AddSymbols(many(0, 60)))
	refused(t, parts.AddSymbols(many(60, 65)), "100@4 13")
	if parts.Sig().Len() != 60 {
		t.Fatalf("%d symbols", parts.Sig().Len())
	}
	taken(t, parts.AddSymbols(many(60, 64)))
	for n := range 64 {
		taken(t, single.AddSymbols(many(n, n+1)))
	}
	for _, y := range []*system.System{once, parts, single} {
		before := whole(t, y)
		refused(t, y.AddSymbols(many(64, 65)), "100@0 13")
		refused(t, y.AddSymbols(many(64, 70)), "100@0 13")
		// sig.Add names these ahead of ErrSigMany.
		refused(t, y.AddSymbols(many(63, 65)), "100@0 12")
		refused(t, y.AddSymbols([]api.Symbol{{Name: "q", Arity: 7}}), "100@0 11")
		refused(t, y.AddSymbols([]api.Symbol{{Name: "Q", Arity: 7}}), "100@0 10")
		if whole(t, y) != before || before != (model{symbols: many(0, 64)}).whole(t) {
			t.Error("64 symbols are others")
		}
	}
}

// P10.2: the first symbol that is refused, whatever stands behind it; what stands ahead of it counts, and is not added.
func TestFirstSymbolRefused(t *testing.T) {
	ok := func(name string) api.Symbol { return api.Symbol{Name: name, Arity: 1} }
	for _, x := range []struct {
		l    []api.Symbol
		want string
	}{
		{[]api.Symbol{{}}, "100@0 10"},
		{[]api.Symbol{{Name: "Q"}}, "100@0 10"},
		{[]api.Symbol{{Name: "qqqqqqqqqqqqq"}}, "100@0 10"},
		{[]api.Symbol{ok("q"), {Name: "a_b"}, {Name: "z"}}, "100@1 10"},
		{[]api.Symbol{{Name: "q", Arity: -1}}, "100@0 11"},
		{[]api.Symbol{{Name: "q", Arity: 7}}, "100@0 11"},
		{[]api.Symbol{{Name: "q", Arity: math.MaxInt}}, "100@0 11"},
		{[]api.Symbol{{Name: "q", Arity: math.MinInt}}, "100@0 11"},
		{[]api.Symbol{{Name: "", Arity: 7}}, "100@0 10"},
		{[]api.Symbol{{Name: "z", Arity: 7}}, "100@0 11"},
		{[]api.Symbol{{Name: "z"}}, "100@0 12"},
		{[]api.Symbol{{Name: "z", Arity: 2, Defined: true}}, "100@0 12"},
		{[]api.Symbol{ok("q"), ok("r"), ok("q")}, "100@2 12"},
		{[]api.Symbol{ok("q"), ok("q"), ok("q")}, "100@1 12"},
		{[]api.Symbol{ok("q"), ok("r"), ok("add"), {Name: "Q"}, {Name: "t", Arity: 9}}, "100@2 12"},
		{[]api.Symbol{ok("q"), {Name: "r", Arity: 9}, ok("add"), {Name: "Q"}}, "100@1 11"},
		{[]api.Symbol{{Name: "\x00"}, ok("z"), {Name: "q", Arity: 9}}, "100@0 10"},
		{append(many(0, 55), ok("q")), "100@55 13"},
		{append(many(0, 55), ok("z")), "100@55 12"},
		{append(many(0, 54), ok("m0"), ok("q"), ok("r")), "100@54 12"},
	} {
		for _, y := range []*system.System{filled(t), filled(t, sum)} {
			before := whole(t, y)
			for range 2 {
				err := y.AddSymbols(x.l)
				refused(t, err, x.want)
				bears(t, err)
				if whole(t, y) != before {
					t.Errorf("%s: it is changed", x.want)
				}
			}
			// The names that stood ahead of what was refused are still free.
			taken(t, y.AddSymbols([]api.Symbol{ok("q"), ok("r"), ok("m0")}))
		}
	}
}

// P10.2: edges that are taken: the longest name, the most arguments.
func TestSymbolsAtTheEdge(t *testing.T) {
	l := []api.Symbol{{Name: "q"}, {Name: "qqqqqqqqqqqq", Arity: 6}, {Name: "q9", Arity: 6, Defined: true}, {Name: "r", Defined: true}}
	y := system.New()
	taken(t, y.AddSymbols(l))
	if whole(t, y) != (model{symbols: l}).whole(t) {
		t.Errorf("%s", whole(t, y))
	}
}

// P10.2, P10.5: a defined symbol that has just come has no rules, and a case tree that is a Fail; its code stands where Compile lays it.
func TestNewSymbolHasTree(t *testing.T) {
	y := filled(t, sum)
	taken(t, y.AddSymbols(symbols(t, "fun late/2; con last/0")))
	c, err := y.Tree(k + 1)
	if err != nil || shownCase(c) != shownCase(api.Case{Kind: api.Fail}) {
		t.Errorf("%s, %v", shownCase(c), err)
	}
	_, err = y.Tree(k + 2)
	refused(t, err, "80@0")
	if entry := y.Code().Entry; len(entry) != k+3 || entry[k+1] < 0 || entry[k+2] != -1 {
		t.Errorf("Entry %v", entry)
	}
}
