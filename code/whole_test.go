package code_test

import (
	"errors"
	"math/rand"
	"slices"
	"testing"

	"ropewalk/api"
	"ropewalk/code"
	"ropewalk/match"
	"ropewalk/rules"
	"ropewalk/sig"
	layer "ropewalk/term"
	"ropewalk/tree"
)

// P9.6: at each place of closed terms where a defined symbol stands, code tells what a walk through the case tree tells; and the parts of a rule that fits are the instance of its right side.
func TestRunIsWalk(t *testing.T) {
	random := rand.New(rand.NewSource(96))
	met := map[int]int{}
	for range 150 {
		r := storeOf(t, chosen(random, []int{add, h, f, k}[:1+random.Intn(4)], 10))
		c, err := code.Compile(r)
		if err != nil {
			t.Fatalf("%v: %v", rulesOf(r), err)
		}
		trees := map[int]api.Case{}
		for _, n := range r.Sig().Of(true) {
			trees[n], _ = tree.Build(r, n)
		}
		for range 40 {
			x := closed(random, []int{add, f, k, g, p}[random.Intn(5)], 3).list()
			v := code.Over(r.Sig(), x)
			for at, symbol := range x {
				if !symbols()[symbol].Defined {
					continue
				}
				want, e := tree.Walk(r.Sig(), trees[symbol], x, at)
				got, f := code.Run(c, symbol, v, at)
				if e != api.OK || f != api.OK || !sameFound(got, want) {
					t.Fatalf("%v, %v at %d: %v, %v; want %v, %v", rulesOf(r), x, at, got, f, want, e)
				}
				if got.Kind == api.Fits {
					sameInstance(t, r, c, x, at, got.Rule)
				}
				met[got.Kind]++
			}
		}
	}
	if min(met[api.Fits], met[api.Rigid], met[api.Demand]) < 1000 {
		t.Errorf("%v", met)
	}
}

// sameInstance holds the parts of a rule that fits at a place, each path's subterm in its place, against match.
func sameInstance(t *testing.T, r *rules.Store, c api.Code, x api.Term, at, rule int) {
	t.Helper()
	y, _ := r.At(rule)
	binds, fit, e := match.Match(r.Sig(), y.Left, x, at)
	if !fit || e != api.OK {
		t.Fatalf("the rule %d does not fit %v at %d", rule, x, at)
	}
	want, e := match.Apply(r.Sig(), y.Right, binds)
	if e != api.OK {
		t.Fatal(e)
	}
	redex, _ := layer.Sub(r.Sig(), x, at)
	var got api.Term
	for _, part := range c.Rights[rule] {
		if part.Symbol >= 0 {
			got = append(got, part.Symbol)
			continue
		}
		place, e := layer.Place(r.Sig(), redex, part.Path...)
		if e != api.OK {
			t.Fatalf("%v leads nowhere in %v", part.Path, redex)
		}
		below, _ := layer.Sub(r.Sig(), redex, place)
		got = append(got, below...)
	}
	if !slices.Equal(got, want) {
		t.Fatalf("the rule %d of %v: %v; want %v", rule, redex, got, want)
	}
	isVariable := func(n int) bool { return n < 0 }
	if n, e := code.Weight(c, rule); n != len(slices.DeleteFunc(slices.Clone(y.Right), isVariable)) || e != api.OK {
		t.Fatalf("the rule %d weighs %d, %v", rule, n, e)
	}
}

// P9.6: at places where no defined symbol stands there is no code.
func TestRunAtConstructors(t *testing.T) {
	c := compiled(t, sum)
	x := term(t, "p(s(z),six(a,a,a,a,a,a))")
	for at, symbol := range x {
		if got, e := code.Run(c, symbol, code.Over(signature(t), x), at); !sameFound(got, none()) || e != api.ErrCodeSymbol {
			t.Errorf("%d: %v, %v", at, got, e)
		}
	}
}

// roomy is a list with spare room, and all of that room.
func roomy(l []int) (list, room []int) {
	room = append(slices.Clone(l), 55, 56, 57)
	return room[:len(l):len(room)], room
}

// fill puts a number all over a list and its spare room.
func fill(l []int, n int) {
	for i := range l[:cap(l)] {
		l[:cap(l)][i] = n
	}
}

// numbers are all lists of numbers of a Code, with their spare room.
func numbers(c api.Code) [][]int {
	l := append([][]int{c.Entry}, c.Paths...)
	for _, parts := range c.Rights {
		for _, x := range parts {
			l = append(l, x.Path)
		}
	}
	return l
}

// spoil puts a number all over a Code, its spare room too, and tells whether all of it is there at last: then no two of its lists share memory.
func spoil(c api.Code, n int) bool {
	lists := numbers(c)
	for i, l := range lists {
		fill(l, n+i)
	}
	for i, l := range lists {
		if slices.ContainsFunc(l[:cap(l)], func(m int) bool { return m != n+i }) {
			return false
		}
	}
	for i, parts := range c.Rights {
		for j := range parts[:cap(parts)] {
			parts[:cap(parts)][j] = api.Part{Symbol: n + i}
		}
	}
	for i, parts := range c.Rights {
		if slices.ContainsFunc(parts[:cap(parts)], func(x api.Part) bool { return x.Symbol != n+i }) {
			return false
		}
	}
	for i := range c.Ins[:cap(c.Ins)] {
		c.Ins[:cap(c.Ins)][i] = api.Ins{Op: n, A: n, B: n}
	}
	for i := range c.Paths[:cap(c.Paths)] {
		c.Paths[:cap(c.Paths)][i] = nil
	}
	for i := range c.Rights[:cap(c.Rights)] {
		c.Rights[:cap(c.Rights)][i] = nil
	}
	return true
}

// R4: what Compile gives out is new memory, spare room too; no two of its lists share any; the store stays as it was.
func TestCompiledIsNew(t *testing.T) {
	// The same paths stand in several branches, and the same variables in several places of right sides.
	r := filled(t, sum+"; f(X,z,z) -> p(X,X); f(X,s(Y),z) -> p(Y,p(X,X)); k(p(X,z)) -> X; h -> h")
	before := rulesOf(r)
	first, _ := code.Compile(r)
	second, _ := code.Compile(r)
	was := shownCode(first)
	if !spoil(first, 10000) {
		t.Error("two lists of one Code share memory")
	}
	if shownCode(second) != was {
		t.Error("two Codes share memory")
	}
	if third, err := code.Compile(r); err != nil || shownCode(third) != was {
		t.Errorf("%s, then %s, %v", was, shownCode(third), err)
	}
	if !slices.EqualFunc(rulesOf(r), before, func(x, y api.Rule) bool { return slices.Equal(x.Left, y.Left) && slices.Equal(x.Right, y.Right) }) {
		t.Error("the store is changed")
	}
	if r.Sig().Len() != len(symbols()) {
		t.Error("the signature is changed")
	}
}

// R3: a store that is refused stays as it was, and so does its signature.
func TestRefusedStays(t *testing.T) {
	r := filled(t, sum+"; "+three("f(", ")"))
	if _, err := code.Compile(r); told(t, err) != forked(f, 2) {
		t.Errorf("%v", err)
	}
	if c, err := tree.Build(r, add); err != nil || len(c.Kids) != 2 || r.Len() != 5 || r.Sig().Len() != len(symbols()) {
		t.Errorf("%v, %v", c, err)
	}
}

// R4: what is handed in to Flat stays, its spare room included; what it gives out is new memory.
func TestFlatHandedIn(t *testing.T) {
	upper, upperRoom := roomy([]int{0})
	lower, lowerRoom := roomy([]int{0, 0})
	kids := append(make([]api.Kid, 0, 4), kid(s, branch(lower, kid(z, leaf(2)))), kid(a, branch(lower)), kid(z, leaf(1)))
	kids[:4][3] = kid(77, leaf(77))
	c := branch(upper, kids...)
	want := "look 0; case 1 5; case 4 9; case 0 11; stuck; look 1; case 0 8; stuck; rule 2; look 2; stuck; rule 1"
	for n := range 3 {
		ins, paths := code.Flat(c)
		if shown(ins) != want || shownPaths(paths) != "0 0.0 0.0" {
			t.Errorf("%s, %s", shown(ins), shownPaths(paths))
		}
		if !spoil(api.Code{Ins: ins, Paths: paths}, 1000*(n+1)) {
			t.Error("two paths share memory")
		}
		if !slices.Equal(upperRoom, []int{0, 55, 56, 57}) || !slices.Equal(lowerRoom, []int{0, 0, 55, 56, 57}) {
			t.Errorf("a path is changed: %v, %v", upperRoom, lowerRoom)
		}
		if kids[:4][3].Symbol != 77 || kids[:4][3].Case.Rule != 77 || kids[0].Symbol != s {
			t.Error("the kids are changed")
		}
	}
	ins, paths := code.Flat(c)
	fill(upper, 9)
	fill(lower, 9)
	if shown(ins) != want || shownPaths(paths) != "0 0.0 0.0" {
		t.Errorf("it hangs on what was handed in: %s", shownPaths(paths))
	}
}

// R4: what is handed in to Run and Weight stays, its spare room included; the path of a Demand is new memory.
func TestRunHandedIn(t *testing.T) {
	path, pathRoom := roomy([]int{1, 0})
	entry, entryRoom := roomy([]int{0, -1, 0, 0})
	ins := append(make([]api.Ins, 0, 8), look(0), inCase(z, 3), stuck(), byRule(1))
	ins[:5][4] = byRule(77)
	paths := append(make([][]int, 0, 3), path)
	rights := append(make([][]api.Part, 0, 3), []api.Part{{Symbol: 1}, {Symbol: -1, Path: path}})
	c := api.Code{Ins: ins, Paths: paths, Entry: entry, Rights: rights}
	was := shownCode(c)
	var found []api.Found
	for _, text := range []string{"add(z,s(h))", "add(z,s(h))", "add(z,s(z))", "add(z,s(a))", "h"} {
		x, room := roomy(term(t, text))
		before := slices.Clone(room)
		for at := -1; at <= len(x); at++ {
			got, _ := code.Run(c, 0, code.Over(signature(t), x), at)
			found = append(found, got)
		}
		code.Weight(c, 0)
		if !slices.Equal(room, before) {
			t.Errorf("%s is changed", text)
		}
	}
	if shownCode(c) != was || !slices.Equal(pathRoom, []int{1, 0, 55, 56, 57}) || !slices.Equal(entryRoom, []int{0, -1, 0, 0, 55, 56, 57}) {
		t.Errorf("the Code is changed: %s", shownCode(c))
	}
	if ins[:5][4] != byRule(77) || ins[:6][5] != (api.Ins{}) || paths[:2][1] != nil || rights[:2][1] != nil {
		t.Error("spare room is changed")
	}
	newPaths(t, found, path)
	if !slices.Equal(pathRoom, []int{1, 0, 55, 56, 57}) {
		t.Errorf("a Demand shares the path: %v", pathRoom)
	}
}

// newPaths spoils the paths of all Demands, which must share no memory, and the path of the code behind them.
func newPaths(t *testing.T, found []api.Found, path []int) {
	t.Helper()
	demands := slices.DeleteFunc(found, func(x api.Found) bool { return x.Kind != api.Demand })
	if len(demands) < 2 {
		t.Fatalf("%v", found)
	}
	for i, x := range demands {
		if !slices.Equal(x.Path, path) {
			t.Fatalf("%v", x)
		}
		fill(x.Path, 1000+i)
	}
	for i, x := range demands {
		if slices.ContainsFunc(x.Path[:cap(x.Path)], func(n int) bool { return n != 1000+i }) {
			t.Error("two Demands share a path")
		}
		if !slices.Equal(path, []int{1, 0}) {
			t.Error("a Demand shares the code's path")
		}
	}
}

// R5: the same answer each time, whatever was asked before; a Fault is another one each time.
func TestSameEachTime(t *testing.T) {
	r := filled(t, sum+"; "+three("f(", ")"))
	c, v := compiled(t, sum), code.Over(signature(t), term(t, "add(add(z,z),s(z))"))
	was := shownCode(c)
	for range 3 {
		if _, err := code.Compile(r); told(t, err) != forked(f, 2) {
			t.Errorf("%v", err)
		}
		if got, e := code.Run(c, add, v, 0); !sameFound(got, demand(1, 0)) || e != api.OK {
			t.Errorf("%v, %v", got, e)
		}
		if got, e := code.Run(c, add, v, 1); !sameFound(got, fits(0)) || e != api.OK {
			t.Errorf("%v, %v", got, e)
		}
		if got := shownCode(compiled(t, sum)); got != was {
			t.Errorf("%s, then %s", was, got)
		}
	}
	_, x := code.Compile(r)
	_, y := code.Compile(r)
	if x == y || errors.Unwrap(x) == errors.Unwrap(y) {
		t.Error("a Fault is another one each time")
	}
	_, x = code.Compile(nil)
	_, y = code.Compile(nil)
	if x == y {
		t.Error("a Fault is another one each time")
	}
}

// R5: lists without elements, nil or not, are the same to every call.
func TestNilLists(t *testing.T) {
	empty := api.Code{Ins: []api.Ins{}, Paths: [][]int{}, Entry: []int{}, Rights: [][]api.Part{}}
	for _, c := range []api.Code{{}, empty} {
		if got, e := code.Run(c, 0, code.Plain{}, 0); !sameFound(got, none()) || e != api.ErrCodeSymbol {
			t.Errorf("%v, %v", got, e)
		}
		if n, e := code.Weight(c, 0); n != 0 || e != api.ErrCodeRule {
			t.Errorf("%d, %v", n, e)
		}
	}
	for _, c := range []api.Case{{Kind: api.Branch}, {Kind: api.Branch, Path: []int{}, Kids: []api.Kid{}}} {
		if ins, paths := code.Flat(c); shown(ins) != "look 0; stuck" || shownPaths(paths) != "*" {
			t.Errorf("%s, %s", shown(ins), shownPaths(paths))
		}
	}
	nowhere(t, code.Over(sig.New(), api.Term{}), []int{0})
}

// Errors: the numbers are the document's.
func TestErrorNumbers(t *testing.T) {
	for i, e := range []api.Errno{api.ErrCodeSymbol, api.ErrCodeRule, api.ErrCodeForm} {
		if int(e) != 90+i {
			t.Errorf("%v is not %d", e, 90+i)
		}
	}
	if api.ErrArg != 1 || api.ErrTreeNone != 81 || api.ErrTreeFork != 82 {
		t.Error("tree's errors")
	}
}
