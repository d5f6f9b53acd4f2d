package tree_test

import (
	"errors"
	"math"
	"math/rand"
	"slices"
	"strconv"
	"strings"
	"testing"

	"ropewalk/api"
	"ropewalk/rules"
	"ropewalk/sig"
	"ropewalk/tree"
)

// sum are the chapter's rules 0 and 1.
const sum = "add(z,X) -> X; add(s(X),Y) -> s(add(X,Y))"

// built is the case tree of a symbol as a text, or the verdict of what was answered instead.
func built(t *testing.T, r *rules.Store, symbol int) (string, verdict) {
	t.Helper()
	c, err := tree.Build(r, symbol)
	if v := told(t, err); v != (verdict{}) {
		if c.Kind != 0 || c.Rule != 0 || len(c.Path) > 0 || len(c.Kids) > 0 {
			t.Errorf("%v beside %v", c, err)
		}
		return "", v
	}
	return shown(c), verdict{}
}

// P8.1: the chapter's examples.
func TestBuildExamples(t *testing.T) {
	for _, x := range []struct {
		rules  string
		symbol int
		want   string
		v      verdict
	}{
		{sum, add, "0{z 0, s 1}", verdict{}},
		{sum, h, "fail", verdict{}},
		{sum, z, "", verdict{code: api.ErrTreeSymbol}},
		{sum, 99, "", verdict{code: api.ErrTreeSymbol}},
		{sum + "; f(z,a,X) -> z; f(a,X,z) -> z; f(X,z,a) -> z", f, "", forked(f, 2)},
		{sum + "; f(X,z,z) -> z; f(X,s(Y),z) -> z", f, "1{z 2{z 2}, s 2{z 3}}", verdict{}},
	} {
		if got, v := built(t, filled(t, x.rules), x.symbol); got != x.want || v != x.v {
			t.Errorf("%q, %d: %s, %v", x.rules, x.symbol, got, v)
		}
	}
}

// P8.1: which node is a fail, a leaf, a branch; by which path; in which order the kids come.
func TestBuild(t *testing.T) {
	for _, x := range []struct {
		rules  string
		symbol int
		want   string
	}{
		// Defined symbols without rules, of any arity, beside others that have some.
		{"h -> z", add, "fail"},
		{"h -> z", f, "fail"},
		{"add(X,Y) -> X", h, "fail"},
		// One rule alone, without constructors and with them.
		{"h -> z", h, "0"},
		{"k(X) -> X", k, "0"},
		{"h -> h; f(Y,X,Z) -> X", f, "1"},
		{"g(A,B,C,D,E,F) -> z", g, "0"},
		{"k(z) -> z", k, "0{z 0}"},
		{"f(X,Y,a) -> z", f, "2{a 0}"},
		{"f(X,s(a),Y) -> z", f, "1{s 1.0{a 0}}"},
		{"f(X,p(Y,s(Z)),V) -> z", f, "1{p 1.1{s 0}}"},
		{"add(p(z,a),p(X,z)) -> z", add, "0{p 0.0{z 0.1{a 1{p 1.1{z 0}}}}}"},
		// Prefix order: what stands beneath an argument comes ahead of the next one.
		{"add(s(s(X)),z) -> z", add, "0{s 0.0{s 1{z 0}}}"},
		{"f(p(X,z),Y,a) -> z; f(p(X,a),Y,z) -> z", f, "0{p 0.1{z 2{a 0}, a 2{z 1}}}"},
		// Kids come by rising numbers of symbols, whatever the order of the rules.
		{"k(p(X,Y)) -> z; k(a) -> z; k(s(X)) -> z; k(z) -> z", k, "0{z 3, s 2, a 1, p 0}"},
		{"k(six(A,B,C,D,E,F)) -> z; k(p(z,X)) -> z; k(p(a,X)) -> z", k, "0{p 0.0{z 1, a 2}, six 0}"},
		// The first place that is a constructor in each rule, not the first that is one in some.
		{"f(X,z,a) -> z; f(z,s(X),a) -> z", f, "1{z 2{a 0}, s 0{z 2{a 1}}}"},
		{"f(X,Y,z) -> z; f(X,Y,a) -> z", f, "2{z 0, a 1}"},
		{"f(X,z,z) -> z; f(a,z,a) -> z", f, "1{z 2{z 0, a 0{a 1}}}"},
		// A place that was passed over parts those that are left farther down.
		{"f(X,z,Y) -> z; f(z,s(X),Y) -> z; f(s(X),s(Y),a) -> z", f, "1{z 0, s 0{z 1, s 2{a 2}}}"},
		{"add(p(X,z),Y) -> z; add(p(z,s(X)),Y) -> z; add(p(s(X),s(Y)),z) -> z", add, "0{p 0.1{z 0, s 0.0{z 1, s 1{z 2}}}}"},
		// Rules whose least number has the most variables, and the other way round.
		{"f(a,X,Y) -> z; f(z,a,Y) -> z; f(z,z,a) -> z", f, "0{z 1{z 2{a 2}, a 1}, a 0}"},
		{"f(z,z,a) -> z; f(z,a,Y) -> z; f(a,X,Y) -> z", f, "0{z 1{z 2{a 0}, a 1}, a 2}"},
		// Two rules of three that would fork.
		{"f(z,a,X) -> z; f(a,X,z) -> z", f, "0{z 1{a 0}, a 2{z 1}}"},
		{"f(z,a,X) -> z; f(X,z,a) -> z", f, "1{z 2{a 1}, a 0{z 0}}"},
		{"f(a,X,z) -> z; f(X,z,a) -> z", f, "2{z 0{a 0}, a 1{z 1}}"},
		// Six arguments.
		{"g(A,B,C,D,E,z) -> z; g(A,B,C,D,E,s(F)) -> z", g, "5{z 0, s 1}"},
		{"k(six(A,B,C,D,E,z)) -> z; k(six(A,B,C,D,a,a)) -> z", k, "0{six 0.5{z 0, a 0.4{a 1}}}"},
		{"g(six(z,A,B,C,D,E),F,X,Y,a,V) -> z", g, "0{six 0.0{z 4{a 0}}}"},
		// Rules of others stand between, and are none of the symbol's.
		{"h -> z; k(z) -> z; add(z,z) -> z; k(s(X)) -> z; add(s(X),z) -> z; k(a) -> z", k, "0{z 1, s 3, a 5}"},
		// Variables have other numbers in each rule, and come in any order.
		{"f(X,z,Y) -> z; f(Y,a,X) -> z", f, "1{z 0, a 1}"},
	} {
		if got, v := built(t, filled(t, x.rules), x.symbol); got != x.want || v != (verdict{}) {
			t.Errorf("%q: %s, %v; want %s", x.rules, got, v, x.want)
		}
	}
}

// three are rules that fork, with what stands ahead of each and behind it.
func three(ahead, behind string) string {
	l := []string{"z,a,X", "a,X,z", "X,z,a"}
	for i, x := range l {
		l[i] = ahead + x + behind + " -> z"
	}
	return strings.Join(l, "; ")
}

// P8.1: rules that fork at the root, and below it, in the first kid and in a later one.
func TestFork(t *testing.T) {
	for _, x := range []struct {
		rules  string
		symbol int
		least  int
	}{
		{three("f(", ")"), f, 0},
		{"h -> z; " + three("f(", ")"), f, 1},
		{"h -> z; k(z) -> z; " + three("f(", ")"), f, 2},
		{three("f(", ")") + "; f(s(X),s(Y),s(Z)) -> z", f, 0},
		{"f(s(X),s(Y),s(Z)) -> z; " + three("f(", ")"), f, 0},
		// Beneath the only kid, the first, the last.
		{three("g(z,Y,Z,", ")"), g, 0},
		{"g(s(A),B,C,D,E,F) -> z; " + three("g(z,Y,Z,", ")"), g, 1},
		{"g(z,B,C,D,E,F) -> z; h -> z; " + three("g(s(V),Y,Z,", ")"), g, 2},
		{three("g(s(V),Y,Z,", ")") + "; g(z,B,C,D,E,F) -> z", g, 0},
		// Two kids fork: the one of the lesser symbol is the first, whatever its rules' numbers are.
		{three("g(s(V),Y,Z,", ")") + "; " + three("g(z,Y,Z,", ")"), g, 3},
		{three("g(z,Y,Z,", ")") + "; " + three("g(s(V),Y,Z,", ")"), g, 0},
		{three("g(a,Y,Z,", ")") + "; " + three("g(s(V),Y,Z,", ")") + "; g(z,B,C,D,E,F) -> z", g, 3},
		// All beneath a kid ahead of the next one: the deeper fork is the first.
		{three("g(s(V),Y,Z,", ")") + "; " + three("g(z,z,z,", ")"), g, 3},
		{three("g(s(V),Y,Z,", ")") + "; g(z,z,a,z,z,z) -> z; " + three("g(z,z,s(A),", ")"), g, 4},
		// Beneath constructors.
		{three("k(six(A,B,C,", "))"), k, 0},
		{three("k(s(six(A,B,C,", ")))") + "; k(z) -> z", k, 0},
		// A place that one rule has as a variable parts nothing, though the others would be parted.
		{"f(z,z,X) -> z; f(a,X,z) -> z; f(s(Y),z,X) -> z; f(X,a,a) -> z", f, 0},
	} {
		r := filled(t, x.rules)
		got, v := built(t, r, x.symbol)
		if v != forked(x.symbol, x.least) {
			t.Errorf("%q: %s, %v; want %d", x.rules, got, v, x.least)
		}
		_, err := tree.Build(r, x.symbol)
		if !bears(err, api.ErrTreeNone, api.ErrTreeFork) {
			t.Errorf("%q: %v", x.rules, err)
		}
		var fault *api.Fault
		if !errors.As(err, &fault) || fault.Code != api.ErrTreeNone || !errors.As(fault.Why, &fault) || fault.Code != api.ErrTreeFork {
			t.Errorf("%q: %v", x.rules, err)
		}
	}
}

// P8.1: a symbol whose rules fork is nothing to another one.
func TestForkOfAnother(t *testing.T) {
	r := filled(t, sum+"; "+three("f(", ")"))
	for symbol, want := range map[int]string{add: "0{z 0, s 1}", h: "fail", g: "fail", k: "fail"} {
		if got, v := built(t, r, symbol); got != want || v != (verdict{}) {
			t.Errorf("%d: %s, %v", symbol, got, v)
		}
	}
}

// orders are all orders of a list.
func orders(l []api.Rule) [][]api.Rule {
	if len(l) == 0 {
		return [][]api.Rule{nil}
	}
	var all [][]api.Rule
	for i := range l {
		for _, rest := range orders(slices.Delete(slices.Clone(l), i, i+1)) {
			all = append(all, append([]api.Rule{l[i]}, rest...))
		}
	}
	return all
}

// rulesOf are the rules of a store.
func rulesOf(r *rules.Store) []api.Rule {
	var l []api.Rule
	for _, x := range r.All() {
		l = append(l, x)
	}
	return l
}

// P8.1, P8.4: the same rules in other orders: the same tree but for the rules' numbers, or none each time.
func TestOrders(t *testing.T) {
	for _, text := range []string{three("f(", ")"), "h -> z; " + three("f(", ")")} {
		for _, l := range orders(rulesOf(filled(t, text))) {
			least := slices.IndexFunc(l, func(x api.Rule) bool { return x.Left[0] == f })
			if got, v := built(t, storeOf(t, l), f); v != forked(f, least) {
				t.Errorf("%v: %s, %v", l, got, v)
			}
		}
	}
	apart := filled(t, "f(X,z,Y) -> z; f(z,s(X),Y) -> z; f(s(X),s(Y),a) -> z; f(s(X),s(Y),z) -> z")
	for _, l := range orders(rulesOf(apart)) {
		c, err := tree.Build(storeOf(t, l), f)
		if err != nil {
			t.Fatal(err)
		}
		var numbers []int
		for _, n := range tree.Rules(c) {
			numbers = append(numbers, slices.IndexFunc(rulesOf(apart), func(x api.Rule) bool { return slices.Equal(x.Left, l[n].Left) }))
		}
		if !slices.Equal(numbers, []int{0, 1, 3, 2}) {
			t.Errorf("%v: %s", l, shown(c))
		}
	}
}

// P8.1: numbers that are no defined symbol.
func TestNoDefinedSymbol(t *testing.T) {
	r := filled(t, sum)
	for _, n := range []int{z, s, a, p, six, 10, 11, 64, math.MaxInt, -1, -3, -99, math.MinInt} {
		_, err := tree.Build(r, n)
		if v := told(t, err); v != (verdict{code: api.ErrTreeSymbol}) || !bears(err, api.ErrTreeSymbol) {
			t.Errorf("%d: %v", n, err)
		}
	}
}

// P8.1: 100 rules, one beneath the other.
func TestManyRules(t *testing.T) {
	r := storeOf(t, apart(100))
	c, err := tree.Build(r, k)
	if err != nil {
		t.Fatal(err)
	}
	for n := range 100 {
		if c.Kind != api.Branch || !slices.Equal(c.Path, make([]int, n+1)) || c.Kids[0].Symbol != z || shown(c.Kids[0].Case) != shown(leaf(n)) {
			t.Fatalf("%d: %v", n, c)
		}
		if n == 99 {
			if len(c.Kids) != 1 {
				t.Errorf("the last one has %d kids", len(c.Kids))
			}
			break
		}
		if len(c.Kids) != 2 || c.Kids[1].Symbol != s {
			t.Fatalf("%d: %d kids", n, len(c.Kids))
		}
		c = c.Kids[1].Case
	}
}

// P8.1: left sides of 200 numbers.
func TestLongSides(t *testing.T) {
	last := func(n int) api.Rule { return api.Rule{Left: chain(k, 198, n), Right: api.Term{z}} }
	for _, x := range []struct {
		l                []api.Rule
		leaves, branches int
	}{
		{[]api.Rule{last(z)}, 1, 199},
		{[]api.Rule{last(a), last(z)}, 2, 199},
		{[]api.Rule{last(-1)}, 1, 198},
	} {
		if len(x.l[0].Left) != 200 {
			t.Fatal("not 200")
		}
		c, err := tree.Build(storeOf(t, x.l), k)
		if err != nil {
			t.Fatal(err)
		}
		if leaves, branches, fails := tree.Size(c); leaves != x.leaves || branches != x.branches || fails != 0 {
			t.Errorf("%d, %d, %d", leaves, branches, fails)
		}
		for n := range x.branches {
			if !slices.Equal(c.Path, make([]int, n+1)) {
				t.Fatalf("%d: %v", n, c.Path)
			}
			if n < x.branches-1 {
				c = c.Kids[0].Case
			}
		}
	}
}

// wide is a left side of 200 numbers, with 80 variables, and with a number's digits, as so many s, in two of the arguments.
func wide(n int) api.Rule {
	left := api.Term{g, -1}
	for _, digit := range []int{n % 10, n / 10} {
		left = append(left, chain(s, digit, z)[1:]...)
	}
	left = append(left, -2, -3)
	for v := 4; v <= 80; v++ {
		left = append(left, p, -v)
	}
	for len(left) < 199 {
		left = append(left, s)
	}
	return api.Rule{Left: append(left, a), Right: api.Term{z}}
}

// P8.1: 100 rules of 200 numbers each: after some hundred branches they are apart, and each goes on alone.
func TestManyLongRules(t *testing.T) {
	var l []api.Rule
	for n := range 100 {
		l = append(l, wide(n))
		if len(l[n].Left) != 200 {
			t.Fatal("not 200")
		}
	}
	r := storeOf(t, l)
	c, err := tree.Build(r, g)
	if err != nil {
		t.Fatal(err)
	}
	branches := 10 + 100 // by the first digit, and by the second one beneath each
	for _, x := range l {
		for _, n := range x.Left {
			if n == p || n == a {
				branches++
			}
		}
		branches += 199 - (slices.Index(x.Left, -80) + 1)
	}
	got := []int{0, 0, 0}
	got[0], got[1], got[2] = tree.Size(c)
	if !slices.Equal(got, []int{100, branches, 0}) {
		t.Errorf("%v; want %d branches", got, branches)
	}
	want := make([]int, 100)
	for n := range want {
		want[n] = n%10*10 + n/10
	}
	if !slices.Equal(tree.Rules(c), want) {
		t.Errorf("%v", tree.Rules(c))
	}
}

// crowd is a signature of 64 symbols, the one of a number defined and of one argument, and a store with a rule of it for each constructor, the last one first.
func crowd(t *testing.T, defined int) *rules.Store {
	t.Helper()
	x := sig.New()
	for n := range 64 {
		y := api.Symbol{Name: "c" + strconv.Itoa(n), Arity: n % 7}
		if n == defined {
			y.Arity, y.Defined = 1, true
		}
		if _, e := x.Add(y); e != api.OK {
			t.Fatal(e)
		}
	}
	r := rules.New(x)
	for n := 63; n >= 0; n-- {
		left := api.Term{defined, n}
		for i := range n % 7 {
			left = append(left, -1-i)
		}
		if n == defined {
			continue
		}
		if err := r.Add([]api.Rule{{Left: left, Right: left}}); err != nil {
			t.Fatal(err)
		}
	}
	return r
}

// P8.1: as many symbols as may be: a kid for each constructor, the first and the last number among them.
func TestManySymbols(t *testing.T) {
	for _, defined := range []int{0, 30, 63} {
		r := crowd(t, defined)
		c, err := tree.Build(r, defined)
		if err != nil || c.Kind != api.Branch || !slices.Equal(c.Path, []int{0}) || len(c.Kids) != 63 {
			t.Fatalf("%v, %v", c, err)
		}
		for i, y := range c.Kids {
			symbol := i
			if i >= defined {
				symbol++
			}
			x, _ := r.At(y.Case.Rule)
			if y.Symbol != symbol || y.Case.Kind != api.Leaf || x.Left[1] != symbol {
				t.Errorf("%d: %v", i, y)
			}
		}
	}
}

// P8.1: rules and symbols that come later are seen, and what was built stays.
func TestLater(t *testing.T) {
	x := signature(t)
	r := rules.New(x)
	first, _ := tree.Build(r, k)
	if _, err := tree.Build(r, 10); told(t, err) != (verdict{code: api.ErrTreeSymbol}) {
		t.Errorf("10: %v", err)
	}
	x.Add(api.Symbol{Name: "b"})
	x.Add(api.Symbol{Name: "j", Arity: 1, Defined: true})
	r.Add([]api.Rule{{Left: api.Term{11, 10}, Right: api.Term{10}}, {Left: api.Term{k, 10}, Right: api.Term{10}}})
	c, err := tree.Build(r, 11)
	if err != nil || c.Kind != api.Branch || len(c.Kids) != 1 || c.Kids[0].Symbol != 10 || c.Kids[0].Case.Rule != 0 {
		t.Errorf("%v, %v", c, err)
	}
	if c, err := tree.Build(r, k); err != nil || tree.Rules(c)[0] != 1 {
		t.Errorf("%v, %v", c, err)
	}
	if _, err := tree.Build(r, 10); told(t, err) != (verdict{code: api.ErrTreeSymbol}) {
		t.Errorf("10: %v", err)
	}
	if shown(first) != "fail" {
		t.Errorf("the first one is %s", shown(first))
	}
}

// P8.1: what the words of the chapter say, of many stores, those that fork and those that do not.
func TestBuildByWords(t *testing.T) {
	random := rand.New(rand.NewSource(8))
	trees, forks, below := 0, 0, 0
	for n := range 3000 {
		symbol := []int{add, f, f, g, k}[random.Intn(5)]
		r := cleft(t, random, symbol, random.Intn(12))
		if n%3 > 0 {
			r = scattered(t, random, symbol, 1+random.Intn(40))
		}
		want, least, ok := leftsOf(r).tree(open(symbol))
		got, v := built(t, r, symbol)
		if ok && (got != shown(want) || v != (verdict{})) || !ok && v != forked(symbol, least) {
			t.Fatalf("%v: %s, %v; want %s, %d", rulesOf(r), got, v, shown(want), least)
		}
		switch {
		case ok:
			trees++
		case least > 0:
			below++
		default:
			forks++
		}
	}
	if trees < 1000 || forks < 300 || below < 50 {
		t.Errorf("%d trees, %d and %d forks", trees, forks, below)
	}
}
