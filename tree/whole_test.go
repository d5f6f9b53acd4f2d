package tree_test

import (
	"errors"
	"math/rand"
	"slices"
	"testing"

	"ropewalk/api"
	"ropewalk/match"
	"ropewalk/rules"
	"ropewalk/sig"
	"ropewalk/tree"
)

// P8.4: the leaves' rules are the symbol's, each once; and a walk tells a rule just where its left side fits.
func TestLeavesAndFits(t *testing.T) {
	random := rand.New(rand.NewSource(84))
	fitting, other := 0, 0
	for n := range 600 {
		symbol := []int{add, f, f, k}[random.Intn(4)]
		r := cleft(t, random, symbol, random.Intn(10))
		if n%3 == 0 {
			r = scattered(t, random, symbol, 1+random.Intn(10))
		}
		r.Add([]api.Rule{{Left: api.Term{h}, Right: api.Term{z}}})
		c, err := tree.Build(r, symbol)
		if err != nil {
			continue
		}
		l := tree.Rules(c)
		slices.Sort(l)
		if !slices.Equal(l, r.Of(symbol)) {
			t.Fatalf("%v: %v", rulesOf(r), l)
		}
		for range 30 {
			x := closed(random, symbol, 3).list()
			for at := range x {
				if x[at] != symbol {
					continue
				}
				found, e := tree.Walk(r.Sig(), c, x, at)
				if e != api.OK {
					t.Fatalf("%v at %d: %v", x, at, e)
				}
				rule, fit := fittingRule(t, r, x, at)
				if fit != (found.Kind == api.Fits) || fit && rule != found.Rule {
					t.Fatalf("%v, %v at %d: %v; the rule %d, %t", rulesOf(r), x, at, found, rule, fit)
				}
				if fit {
					fitting++
				} else {
					other++
				}
			}
		}
	}
	if fitting < 1000 || other < 1000 {
		t.Errorf("%d fit, %d do not", fitting, other)
	}
}

// fittingRule is the rule whose left side fits at a place, by match.
func fittingRule(t *testing.T, r *rules.Store, x api.Term, at int) (int, bool) {
	t.Helper()
	for n, y := range r.All() {
		_, ok, e := match.Match(r.Sig(), y.Left, x, at)
		if e != api.OK {
			t.Fatal(e)
		}
		if ok {
			return n, true
		}
	}
	return 0, false
}

// P8.4: whether there is a case tree does not hang on the rules' order, and no rule more makes one where there is none.
func TestForkStays(t *testing.T) {
	random := rand.New(rand.NewSource(85))
	forks := 0
	for range 400 {
		symbol := []int{f, g}[random.Intn(2)]
		r := scattered(t, random, symbol, 30)
		_, err := tree.Build(r, symbol)
		l := rulesOf(r)
		random.Shuffle(len(l), func(i, j int) { l[i], l[j] = l[j], l[i] })
		if _, other := tree.Build(storeOf(t, l), symbol); (err == nil) != (other == nil) {
			t.Fatalf("%v: %v; in another order %v", rulesOf(r), err, other)
		}
		gone := false
		grown := storeOf(t, nil)
		for _, x := range l {
			if err := grown.Add([]api.Rule{x}); err != nil {
				t.Fatal(err)
			}
			_, err := tree.Build(grown, symbol)
			if gone && err == nil {
				t.Fatalf("%v: one rule more makes a case tree", rulesOf(grown))
			}
			gone = err != nil
		}
		if gone != (err != nil) {
			t.Fatalf("%v: %v; one by one %t", rulesOf(r), err, gone)
		}
		if gone {
			forks++
		}
	}
	if forks < 50 || forks > 350 {
		t.Errorf("%d fork", forks)
	}
}

// R1, R2: a nil store ahead of all else.
func TestNilStore(t *testing.T) {
	for _, n := range []int{0, add, -1, 99} {
		c, err := tree.Build(nil, n)
		if v := told(t, err); v != (verdict{code: api.ErrArg}) || !bears(err, api.ErrArg) || c.Kind != 0 {
			t.Errorf("%d: %v, %v", n, c, err)
		}
	}
}

// R1: a store that somebody made by hand, without a signature, or over one without symbols: there is no symbol.
func TestNoSymbols(t *testing.T) {
	for _, r := range []*rules.Store{{}, rules.New(sig.New()), rules.New(&sig.Sig{})} {
		for _, n := range []int{0, add, -1} {
			if _, v := built(t, r, n); v != (verdict{code: api.ErrTreeSymbol}) {
				t.Errorf("%d: %v", n, v)
			}
		}
	}
}

// R1: a signature that somebody exchanged beneath a store: what is no term of it any more parts nothing.
func TestSignatureExchanged(t *testing.T) {
	for _, l := range [][]api.Symbol{
		nil,
		{{Name: "z"}, {Name: "s", Arity: 1}, {Name: "a"}, {Name: "add", Arity: 1, Defined: true}},
		{{Name: "z"}, {Name: "s", Arity: 2}, {Name: "a"}, {Name: "add", Arity: 2, Defined: true}},
		{{Name: "z", Arity: 1}, {Name: "s"}, {Name: "a"}, {Name: "add", Arity: 2, Defined: true}},
		{{Name: "z"}, {Name: "s", Arity: 1, Defined: true}, {Name: "a"}, {Name: "add", Arity: 2, Defined: true}},
		{{Name: "z"}, {Name: "s", Arity: 1}, {Name: "a"}, {Name: "add", Arity: 2}},
		{{Name: "add", Arity: 2, Defined: true}},
	} {
		x := signature(t)
		r := rules.New(x)
		if err := r.Add(rulesOf(filled(t, sum+"; add(a,p(X,Y)) -> X"))); err != nil {
			t.Fatal(err)
		}
		*x = sig.Sig{}
		for _, y := range l {
			x.Add(y)
		}
		for n := range 10 {
			c, err := tree.Build(r, n)
			told(t, err)
			if isDefined := n < len(l) && l[n].Defined; errors.Is(err, api.ErrTreeSymbol) == isDefined {
				t.Errorf("%v, %d: %v", l, n, err)
			}
			tree.Size(c)
		}
	}
}

// all are the lists of numbers of a Case, and its lists of kids, with their spare room.
func all(c api.Case) (paths [][]int, kids [][]api.Kid) {
	paths, kids = [][]int{c.Path[:cap(c.Path)]}, [][]api.Kid{c.Kids[:cap(c.Kids)]}
	for _, x := range c.Kids {
		p, q := all(x.Case)
		paths, kids = append(paths, p...), append(kids, q...)
	}
	return paths, kids
}

// R3, R4: what Build gives out is new memory, spare room too; no two of its lists share any; the store stays as it was.
func TestBuiltIsNew(t *testing.T) {
	// Both kids of f's branch go on by one and the same path; so do those of k's, beneath it.
	r := filled(t, sum+"; f(X,z,z) -> z; f(X,s(Y),z) -> z; k(p(z,s(X))) -> z; k(p(a,a)) -> z; k(p(s(X),s(Y))) -> z; "+three("g(z,Y,Z,", ")"))
	before, was := rulesOf(r), map[int]string{}
	var trees []api.Case
	for range 2 {
		for _, symbol := range []int{add, f, k} {
			c, err := tree.Build(r, symbol)
			if err != nil {
				t.Fatal(err)
			}
			was[symbol] = shown(c)
			trees = append(trees, c)
		}
		tree.Build(r, g)
	}
	var paths [][]int
	var kids [][]api.Kid
	for _, c := range trees {
		p, q := all(c)
		paths, kids = append(paths, p...), append(kids, q...)
	}
	for i, l := range paths {
		for j := range l {
			l[j] = 1000 + i
		}
	}
	for i, l := range kids {
		for j := range l {
			l[j].Symbol = 1000 + i
		}
	}
	for i, l := range paths {
		if slices.ContainsFunc(l, func(n int) bool { return n != 1000+i }) {
			t.Fatal("two paths share memory")
		}
	}
	for i, l := range kids {
		if slices.ContainsFunc(l, func(x api.Kid) bool { return x.Symbol != 1000+i }) {
			t.Fatal("two lists of kids share memory")
		}
	}
	for symbol, text := range was {
		if got, v := built(t, r, symbol); got != text || v != (verdict{}) {
			t.Errorf("%d: %s, then %s", symbol, text, got)
		}
	}
	if !slices.EqualFunc(rulesOf(r), before, func(x, y api.Rule) bool { return slices.Equal(x.Left, y.Left) && slices.Equal(x.Right, y.Right) }) {
		t.Error("the store is changed")
	}
	if r.Sig().Len() != len(symbols()) {
		t.Error("the signature is changed")
	}
}

// roomy is a list with spare room, and all of that room.
func roomy(l []int) (list, room []int) {
	room = append(slices.Clone(l), 55, 56, 57)
	return room[:len(l):len(room)], room
}

// R4: what is handed in to Walk, Rules and Size stays, its spare room included.
func TestHandedIn(t *testing.T) {
	x := signature(t)
	for _, text := range []string{"add(s(h),z)", "add(h,a)", "add(p(z,z),a)", "k(z)", "add(X,z)"} {
		upper, upperRoom := roomy([]int{0})
		lower, lowerRoom := roomy([]int{0, 0})
		kids := append(make([]api.Kid, 0, 4), kid(s, branch(lower, kid(z, leaf(2)))), kid(z, leaf(1)))
		kids[:3][2] = kid(77, leaf(77))
		c := branch(upper, kids...)
		term, termRoom := roomy(term(t, text))
		rooms := [][]int{slices.Clone(upperRoom), slices.Clone(lowerRoom), slices.Clone(termRoom)}
		for at := -1; at <= len(term); at++ {
			tree.Walk(x, c, term, at)
		}
		tree.Rules(c)
		tree.Size(c)
		if !slices.Equal(upperRoom, rooms[0]) || !slices.Equal(lowerRoom, rooms[1]) || !slices.Equal(termRoom, rooms[2]) {
			t.Errorf("%s: a list is changed", text)
		}
		if shown(c) != "0{s 0.0{z 2}, z 1}" || kids[:3][2].Symbol != 77 || kids[:3][2].Case.Rule != 77 {
			t.Errorf("%s: the Case is changed: %s", text, shown(c))
		}
	}
	if x.Len() != len(symbols()) {
		t.Error("the signature is changed")
	}
}

// R4: the path of a Demand is new memory, and so is a list of rules.
func TestAnswersAreNew(t *testing.T) {
	path, room := roomy([]int{1, 0})
	c := branch(path, kid(z, leaf(1)))
	first, _ := tree.Walk(signature(t), c, api.Term{add, z, s, h}, 0)
	second, _ := tree.Walk(signature(t), c, api.Term{add, z, s, h}, 0)
	fill(first.Path, 1000)
	fill(second.Path, 2000)
	if !slices.Equal(room, []int{1, 0, 55, 56, 57}) || slices.Contains(first.Path[:cap(first.Path)], 2000) {
		t.Errorf("%v, %v, %v", room, first.Path, second.Path)
	}
	fill(path, 3000)
	if !slices.Equal(first.Path, []int{1000, 1000}) {
		t.Errorf("%v hangs on what was handed in", first.Path)
	}
	d := caseOf(t, sum+"; add(a,X) -> X", add)
	l, m := tree.Rules(d), tree.Rules(d)
	fill(l, 1000)
	fill(m, 2000)
	if slices.Contains(l[:cap(l)], 2000) || !slices.Equal(tree.Rules(d), []int{0, 1, 2}) {
		t.Errorf("%v, %v", l, tree.Rules(d))
	}
}

// fill puts a number all over a list and its spare room.
func fill(l []int, n int) {
	for i := range l[:cap(l)] {
		l[:cap(l)][i] = n
	}
}

// R5: the same answer each time, whatever was asked before.
func TestSameEachTime(t *testing.T) {
	r := filled(t, sum+"; "+three("f(", ")"))
	c := caseOf(t, sum, add)
	for range 3 {
		if got, v := built(t, r, f); got != "" || v != forked(f, 2) {
			t.Errorf("%s, %v", got, v)
		}
		if got, v := built(t, r, add); got != "0{z 0, s 1}" || v != (verdict{}) {
			t.Errorf("%s, %v", got, v)
		}
		if got, e := tree.Walk(r.Sig(), c, api.Term{add, h, z}, 0); !sameFound(got, demand(1, 0)) || e != api.OK {
			t.Errorf("%v, %v", got, e)
		}
	}
	_, x := tree.Build(r, f)
	_, y := tree.Build(r, f)
	if x == y || errors.Unwrap(x) == errors.Unwrap(y) {
		t.Error("a Fault is another one each time")
	}
}

// Errors: the numbers are the document's.
func TestErrorNumbers(t *testing.T) {
	for i, e := range []api.Errno{api.ErrTreeSymbol, api.ErrTreeNone, api.ErrTreeFork} {
		if int(e) != 80+i {
			t.Errorf("%v is not %d", e, 80+i)
		}
	}
	if api.ErrArg != 1 || api.ErrTermVariable != 22 || api.ErrTermPlace != 24 || api.ErrTermPath != 25 {
		t.Error("term's errors")
	}
}
