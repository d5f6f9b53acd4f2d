package graft_test

import (
	"errors"
	"math"
	"math/rand"
	"slices"
	"strings"
	"testing"

	"ropewalk/api"
	"ropewalk/code"
	"ropewalk/graft"
	"ropewalk/heap"
	"ropewalk/match"
	"ropewalk/notation"
	"ropewalk/rules"
	"ropewalk/sig"
)

// written are rules that are written out.
func written(t testing.TB, text string) []api.Rule {
	t.Helper()
	l, err := notation.Rules(signature(t), text)
	if err != nil {
		t.Fatalf("%s: %v", text, err)
	}
	return l
}

// compiled is the code of rules that are written out.
func compiled(t testing.TB, text string) api.Code {
	t.Helper()
	store := rules.New(signature(t))
	if err := store.Add(written(t, text)); err != nil {
		t.Fatalf("%s: %v", text, err)
	}
	c, err := code.Compile(store)
	if err != nil {
		t.Fatalf("%s: %v", text, err)
	}
	return c
}

// lists are all lists of at most so many elements.
func lists[T any](elements []T, most int) [][]T {
	all := [][]T{nil}
	for from, n := 0, 0; n < most; n++ {
		end := len(all)
		for _, l := range all[from:end] {
			for _, x := range elements {
				all = append(all, append(slices.Clone(l), x))
			}
		}
		from = end
	}
	return all
}

// P13.1, R2, R3: all short lists of numbers, with just enough room and with less.
func TestAllShortTerms(t *testing.T) {
	g := signature(t)
	met := map[string]int{}
	for _, x := range lists([]int{-100, -1, z, s, p, f, lacking}, 5) {
		for _, room := range []int{3, 4, 7} {
			met[agreesLoad(t, g, refilled(t, room, app(r), ind(0)), x)]++
		}
		if t.Failed() {
			t.FailNow()
		}
	}
	for _, word := range []string{"", "130@0", "130@0 21", "130@0 22", "130@0 23", "131@0 111"} {
		if met[word] < 10 {
			t.Errorf("%q was met %d times", word, met[word])
		}
	}
}

// P13.2, R2, R3: all short lists of parts, for an application, an indirection and a node that is not there, with room and with less.
func TestAllShortSides(t *testing.T) {
	g := signature(t)
	met := map[string]int{}
	parts := side(by(z), by(s), by(p), at(), at(0), at(1, 0), by(lacking), by(-2))
	for _, l := range lists(parts, 4) {
		for node := range 5 {
			for _, room := range []int{4, 5, 9} {
				h := refilled(t, room, app(z), ind(0), app(s, 1), app(p, 0, 2))
				met[agreesBuild(t, g, rights(l), h, 0, node)]++
			}
		}
	}
	for _, word := range []string{"", "130@0", "131@0 111", "132@0", "132@1", "132@2", "132@3", "132@0 14", "132@1 14", "132@2 14", "132@3 14", "132@0 112"} {
		if met[word] < 50 {
			t.Errorf("%q was met %d times", word, met[word])
		}
	}
}

// somePath mostly leads somewhere, where there is a heap like that.
func somePath(random *rand.Rand, m model, node int) []int {
	var path []int
	a := m.is(node)
	for a >= 0 && random.Intn(3) > 0 {
		n := random.Intn(len(m.nodes[a].Args) + 1)
		if n == len(m.nodes[a].Args) && random.Intn(9) > 0 {
			break
		}
		path = append(path, n)
		a = m.leads(a, []int{n})
	}
	return path
}

// someSide is in prefix order a list of one thing, if no chance spoils it.
func someSide(random *rand.Rand, m model, node, depth int) []api.Part {
	if depth == 0 || random.Intn(3) == 0 {
		return side(at(somePath(random, m, node)...))
	}
	if random.Intn(60) == 0 {
		return side(by([]int{lacking, -2, 70, -1000}[random.Intn(4)]))
	}
	symbol := random.Intn(lacking)
	l := side(by(symbol))
	for range symbols()[symbol].Arity {
		l = append(l, someSide(random, m, node, depth-1)...)
	}
	if random.Intn(40) == 0 {
		l = append(l, at())
	}
	if random.Intn(40) == 0 {
		l = l[:len(l)-1]
	}
	return l
}

// P13.1 to P13.4, R2, R3: Loads and Builds among all else that is done to a heap, whose nodes lead forwards and backwards.
func TestByChance(t *testing.T) {
	g := signature(t)
	random := rand.New(rand.NewSource(13))
	met := map[string]int{}
	for range 4000 {
		count := random.Intn(9)
		h := refilled(t, max(1, count)+random.Intn(25), someNodes(random, count)...)
		for range 5 {
			m := modelOf(t, h)
			node := random.Intn(len(m.nodes)+1) - random.Intn(20)/19
			c := rights(side(by(lacking)), someSide(random, m, node, 3), nil)
			rule := 1
			if random.Intn(20) == 0 {
				rule = random.Intn(5) - 1
			}
			met["build "+agreesBuild(t, g, c, h, rule, node)]++
			met["load "+agreesLoad(t, g, h, someTerm(random, 3))]++
			h.Mark(random.Intn(h.Room()), random.Intn(3))
			h.Point(random.Intn(h.Room()), random.Intn(h.Room()))
			sees(t, h)
		}
		if t.Failed() {
			t.FailNow()
		}
	}
	for _, word := range []string{"build ", "load ", "build 130@0", "build 131@0 111", "load 131@0 111", "build 132@0", "build 132@1", "build 132@0 14", "build 132@0 91", "build 132@0 112"} {
		if met[word] < 50 {
			t.Errorf("%q was met %d times", word, met[word])
		}
	}
}

// sees asks a heap's sight for all nodes and arguments.
func sees(t *testing.T, h *heap.Heap) {
	t.Helper()
	m, x := modelOf(t, h), graft.Of(h)
	for node := -1; node <= len(m.nodes); node++ {
		if a := m.is(node); a < 0 {
			heads(t, x, node, -1, false)
		} else {
			heads(t, x, node, m.nodes[a].Symbol, m.nodes[a].Mark > 0)
		}
		for n := -1; n <= 6; n++ {
			leads(t, x, node, n, m.leads(node, []int{n}))
		}
	}
}

// P13.4: the term of what Load answers is what was loaded, and no other node's term is another one.
func TestTermOfLoad(t *testing.T) {
	g := signature(t)
	random := rand.New(rand.NewSource(14))
	for range 1000 {
		h := refilled(t, 4000, someNodes(random, random.Intn(8))...)
		before := modelOf(t, h)
		x := someTerm(random, 1+random.Intn(5))
		a, err := graft.Load(g, h, x)
		after := modelOf(t, h)
		if err != nil || !slices.Equal(after.term(a), x) || len(after.nodes) != len(before.nodes)+len(x) {
			t.Fatalf("Load of %v: %d, %s", x, a, told(t, err))
		}
		sameTerms(t, before, after)
	}
}

// sameTerms asks whether all nodes that were there have the terms that they had.
func sameTerms(t *testing.T, before, after model) {
	t.Helper()
	for b := range before.nodes {
		if !slices.Equal(before.term(b), after.term(b)) {
			t.Fatalf("the term of %d was %v, and is %v", b, before.term(b), after.term(b))
		}
	}
}

const someRules = "d(z) -> r; d(s(X)) -> p(X,s(X)); d(p(X,Y)) -> p(d(Y),d(X)); f(z,X,Y) -> X; f(s(X),z,Y) -> f(X,Y,f(Y,X,X)); f(s(X),s(Y),Z) -> six(X,Y,Z,Y,X,z); f(p(X,Y),Z,V) -> f(p(Y,X),V,s(Z)); r -> p(z,z)"

// P13.4: wherever a rule fits, the term of what Build answers is what the rule makes of the node's; it is found by code that asks the heap's sight.
func TestTermOfBuild(t *testing.T) {
	g, c, l := signature(t), compiled(t, someRules), written(t, someRules)
	random := rand.New(rand.NewSource(15))
	met := make([]int, len(l))
	for range 3000 {
		h := refilled(t, 4000, someNodes(random, 2+random.Intn(12))...)
		h.Clear() // else a node may be known to be rigid that is not
		before := modelOf(t, h)
		for node := range before.nodes {
			symbol, _ := graft.Of(h).Head(node)
			found, e := code.Run(c, symbol, graft.Of(h), node)
			x := before.term(node)
			if e != api.OK || found.Kind != api.Fits || len(x) > 300 {
				continue
			}
			binds, ok, _ := match.Match(g, l[found.Rule].Left, x, 0)
			if !ok {
				t.Fatalf("the rule %d does not fit %v", found.Rule, x)
			}
			want, _ := match.Apply(g, l[found.Rule].Right, binds)
			a, err := graft.Build(g, c, h, found.Rule, node)
			if after := modelOf(t, h); err != nil || !slices.Equal(after.term(a), want) {
				t.Fatalf("Build by the rule %d for %v: %v, not %v", found.Rule, x, after.term(a), want)
			}
			met[found.Rule]++
		}
		sameTerms(t, before, modelOf(t, h))
	}
	for rule, n := range met {
		if n < 20 {
			t.Errorf("the rule %d was built %d times", rule, n)
		}
	}
}

// P13.4: code finds the same over the sight of a loaded term as over the term itself.
func TestSightOfTerm(t *testing.T) {
	g, c := signature(t), compiled(t, someRules)
	random := rand.New(rand.NewSource(16))
	for range 2000 {
		h := refilled(t, 4000, someNodes(random, random.Intn(4))...)
		x := someTerm(random, 1+random.Intn(4))
		top, err := graft.Load(g, h, x)
		if err != nil {
			t.Fatal(err)
		}
		for place, symbol := range x {
			want, e := code.Run(c, symbol, code.Over(g, x), place)
			if e != api.OK {
				continue
			}
			if want.Kind == api.Demand {
				want.Node = top - want.Node
			}
			found(t, c, symbol, graft.Of(h), top-place, want)
		}
	}
}

// R1: a nil signature, a nil heap: ErrArg ahead of all else, whatever the others are.
func TestNil(t *testing.T) {
	var noSig *sig.Sig
	var noHeap *heap.Heap
	codes := []api.Code{{}, rights(side(by(z))), rights(nil), rights(side(by(lacking))), rights(side(at(3)))}
	for _, g := range []*sig.Sig{noSig, signature(t)} {
		for _, h := range []*heap.Heap{noHeap, twigs(t, 9), empty(t, 4)} {
			if g != nil && h != nil {
				continue
			}
			before := shownList(slices.Collect(secondOf(h)))
			for _, x := range []api.Term{nil, {z}, {s, z}, {s}, {-1}, {lacking}, {-100}, make(api.Term, 3000)} {
				if a, err := graft.Load(g, h, x); a != 0 || told(t, err) != "1@0" {
					t.Errorf("Load of %v: %d, %s", x, a, told(t, err))
				}
			}
			for _, c := range codes {
				for _, rule := range []int{0, 1, -1, math.MaxInt} {
					for _, node := range []int{0, 8, 9, -1, math.MinInt} {
						if a, err := graft.Build(g, c, h, rule, node); a != 0 || told(t, err) != "1@0" {
							t.Errorf("Build: %d, %s", a, told(t, err))
						}
					}
				}
			}
			if after := shownList(slices.Collect(secondOf(h))); after != before {
				t.Errorf("%s, not %s", after, before)
			}
		}
	}
}

// secondOf goes through a heap's nodes alone.
func secondOf(h *heap.Heap) func(func(api.Node) bool) {
	return func(yield func(api.Node) bool) {
		for _, x := range h.All() {
			if !yield(x) {
				return
			}
		}
	}
}

// R1: a heap and a signature that New did not make have nothing, and no room.
func TestHandMade(t *testing.T) {
	h, g := &heap.Heap{}, signature(t)
	noLoad(t, g, h, api.Term{z}, "131@0 111")
	noLoad(t, g, h, api.Term{-1}, "130@0")
	noBuild(t, g, rights(side(at())), h, 0, 0, "132@0 112")
	noLoad(t, &sig.Sig{}, empty(t, 3), api.Term{z}, "130@0 21")
	noBuild(t, &sig.Sig{}, rights(side(by(z))), twigs(t, 20), 0, 0, "132@0 14")
	builds(t, &sig.Sig{}, rights(side(at(0))), twigs(t, 20), 0, 8, 6)
}

// R1, R3: heaps that were copied by hand hang together, and nothing is promised of what they have; but each call ends, none panics, and what is refused changes nothing.
func TestHeapCopiedByHand(t *testing.T) {
	random := rand.New(rand.NewSource(17))
	g := signature(t)
	address := func(h *heap.Heap) int { return random.Intn(max(1, h.Used())) }
	astray, refused := 0, 0
	for range 2000 {
		room := 2 + random.Intn(9)
		heaps := []*heap.Heap{empty(t, room)}
		for range 40 {
			h := heaps[random.Intn(len(heaps))]
			if random.Intn(10) == 0 {
				other := *h
				heaps = append(heaps, &other)
			}
			h.Make(p, address(h), address(h))
			h.Point(address(h), address(h))
			if random.Intn(12) == 0 {
				h.Refill(someNodes(random, random.Intn(room+1)))
			}
			before := nodesOf(t, h)
			if slices.ContainsFunc(before, func(x api.Node) bool { return slices.Max(append(x.Args, x.To)) >= len(before) }) {
				astray++
			}
			x := graft.Of(h)
			for node := range room {
				x.Head(node)
				x.Arg(node, random.Intn(2))
			}
			holds(t, h, room, before...)
			c := rights(side(by(p), by(s), at(), at(0)), side(at(0, 1)), side(by(s), at(1, 1, 0)))
			a, err := graft.Build(g, c, h, random.Intn(3), address(h))
			if err != nil {
				refused++
				holds(t, h, room, before...)
				continue
			}
			if a < 0 || a >= h.Used() {
				t.Fatalf("Build answers %d of %d nodes", a, h.Used())
			}
		}
	}
	if astray < 300 || refused < 300 {
		t.Errorf("%d heaps had nodes that lead where they have none; %d were refused", astray, refused)
	}
}

// R4: a term that is handed in is neither changed nor kept, its spare room included.
func TestTermStays(t *testing.T) {
	g, h := signature(t), empty(t, 9)
	room := api.Term{p, s, z, r, 77, 78, 79, 80}
	want := slices.Clone(room)
	loads(t, g, h, room[:4], 3, app(r), app(z), app(s, 1), app(p, 2, 0))
	noLoad(t, g, h, room[:5], "130@0 21")
	noLoad(t, g, h, room[:3], "130@0 23")
	loads(t, g, h, room[1:3], 5, app(z), app(s, 4))
	noLoad(t, g, h, room[:4], "131@0 111")
	if !slices.Equal(room, want) {
		t.Fatalf("Load changes %v", room)
	}
	before := nodesOf(t, h)
	for i := range room {
		room[i] = -7777
	}
	holds(t, h, 9, before...)
}

// shownCode is a code as a text, the spare room of its right sides' lists included.
func shownCode(c api.Code) string {
	words := []string{shownSide(c.Rights[0][:cap(c.Rights[0])])}
	for _, l := range c.Rights[:cap(c.Rights)] {
		words = append(words, shownSide(l))
		for _, x := range l {
			words = append(words, numbers(x.Path[:cap(x.Path)]))
		}
	}
	return strings.Join(words, "; ")
}

// R4: code that is handed in is neither changed nor kept, its spare room included.
func TestCodeStays(t *testing.T) {
	g, h := signature(t), twigs(t, 14)
	path := []int{0, 5, 0, 81, 82}
	parts := side(by(f), by(s), at(), at(path[:2]...), at(path[:3]...), by(77), at(9))
	parts[3].Path, parts[4].Path = path[:2], path[:3]
	c := rights(parts[:5], side(at(4)), side(by(s)), side(by(88)))
	c.Rights = c.Rights[:3]
	want := shownCode(c)
	builds(t, g, c, h, 0, 8, 10, app(s, 8), app(f, 9, 3, 2))
	noBuild(t, g, c, h, 1, 8, "132@0")
	noBuild(t, g, c, h, 2, 8, "130@0")
	noBuild(t, g, c, h, 3, 8, "132@0 91")
	builds(t, g, c, h, 0, 8, 12, app(s, 8), app(f, 11, 3, 2))
	noBuild(t, g, c, h, 0, 8, "131@0 111")
	if got := shownCode(c); got != want {
		t.Fatalf("Build changes %s into %s", want, got)
	}
	before := nodesOf(t, h)
	for i := range path {
		path[i] = -7777
	}
	for i := range parts {
		parts[i] = by(-7777)
	}
	holds(t, h, 14, before...)
}

// R4: a signature that is handed in has what it had.
func TestSignatureStays(t *testing.T) {
	g := signature(t)
	graft.Load(g, empty(t, 9), api.Term{p, s, z, r})
	graft.Load(g, empty(t, 9), api.Term{lacking})
	graft.Build(g, rights(side(by(s), at())), twigs(t, 20), 0, 8)
	graft.Build(g, rights(side(by(lacking))), twigs(t, 20), 0, 8)
	for n, x := range g.All() {
		if x != symbols()[n] {
			t.Errorf("%d is %v", n, x)
		}
	}
	if g.Len() != len(symbols()) {
		t.Errorf("%d symbols", g.Len())
	}
}

// R4: no two nodes share what they have.
func TestNodesAreNew(t *testing.T) {
	g, h := signature(t), empty(t, 12)
	loads(t, g, h, api.Term{p, s, z, s, z}, 4, app(z), app(s, 0), app(z), app(s, 2), app(p, 3, 1))
	builds(t, g, rights(side(by(p), by(p), at(), at(0), by(p), at(), at(1))), h, 0, 4, 7, app(p, 4, 1), app(p, 4, 3), app(p, 6, 5))
	before := nodesOf(t, h)
	for a := range before {
		x, _ := h.At(a)
		for i := range x.Args {
			x.Args[i] = -7777
		}
	}
	holds(t, h, 12, before...)
}

// R5: the same calls give the same answers each time, with copies of the signature, too.
func TestSameEachTime(t *testing.T) {
	c := compiled(t, someRules)
	for range 20 {
		g := signature(t)
		for _, y := range []*sig.Sig{g, g.Copy()} {
			h := empty(t, 9)
			loads(t, y, h, api.Term{d, s, r}, 2, app(r), app(s, 0), app(d, 1))
			builds(t, y, c, h, 1, 2, 4, app(s, 0), app(p, 0, 3))
			noBuild(t, y, c, h, 2, 2, "132@2")
			noLoad(t, y, h, api.Term{six, z, z, z, z, z, z}, "131@0 111")
		}
	}
}

// Errors: the numbers are the document's.
func TestErrorNumbers(t *testing.T) {
	if api.ErrArg != 1 || api.ErrGraftTerm != 130 || api.ErrGraftFull != 131 || api.ErrGraftNode != 132 {
		t.Error("a number is another one")
	}
}

// Errors: errors.Is holds for each number that a Fault or its Why bears, and for no other; errors.As finds the Fault; it is another one each time.
func TestErrors(t *testing.T) {
	g := signature(t)
	load := func(x api.Term) func() error {
		return func() error { _, err := graft.Load(g, empty(t, 1), x); return err }
	}
	build := func(rule, node int, l ...api.Part) func() error {
		return func() error { _, err := graft.Build(g, rights(l), twigs(t, 9), rule, node); return err }
	}
	for _, c := range []struct {
		call func() error
		at   int
		want []api.Errno
	}{
		{func() error { _, err := graft.Load(nil, empty(t, 1), nil); return err }, 0, []api.Errno{api.ErrArg}},
		{func() error { _, err := graft.Load(g, nil, nil); return err }, 0, []api.Errno{api.ErrArg}},
		{func() error { _, err := graft.Build(nil, api.Code{}, empty(t, 1), 0, 0); return err }, 0, []api.Errno{api.ErrArg}},
		{func() error { _, err := graft.Build(g, api.Code{}, nil, 0, 0); return err }, 0, []api.Errno{api.ErrArg}},
		{load(nil), 0, []api.Errno{api.ErrGraftTerm, api.ErrTermShape}},
		{load(api.Term{lacking}), 0, []api.Errno{api.ErrGraftTerm, api.ErrTermSymbol}},
		{load(api.Term{-100}), 0, []api.Errno{api.ErrGraftTerm, api.ErrTermVariable}},
		{load(make(api.Term, 2001)), 0, []api.Errno{api.ErrGraftTerm, api.ErrTermLong}},
		{load(api.Term{-1}), 0, []api.Errno{api.ErrGraftTerm}},
		{load(api.Term{s, z}), 0, []api.Errno{api.ErrGraftFull, api.ErrHeapFull}},
		{build(1, 8), 0, []api.Errno{api.ErrGraftNode, api.ErrCodeRule}},
		{build(0, 9), 0, []api.Errno{api.ErrGraftNode, api.ErrHeapNode}},
		{build(0, 8, by(p), by(lacking)), 1, []api.Errno{api.ErrGraftNode, api.ErrSigNone}},
		{build(0, 8, by(p), by(-2)), 1, []api.Errno{api.ErrGraftNode}},
		{build(0, 8, by(p), at(), at(1)), 2, []api.Errno{api.ErrGraftNode}},
		{build(0, 8), 0, []api.Errno{api.ErrGraftTerm}},
		{build(0, 8, by(z)), 0, []api.Errno{api.ErrGraftFull, api.ErrHeapFull}},
	} {
		err, again := c.call(), c.call()
		var x, y *api.Fault
		if !errors.As(err, &x) || !errors.As(again, &y) || x == y || x.Code != c.want[0] || x.At != c.at {
			t.Errorf("%s, %s", told(t, err), told(t, again))
			continue
		}
		if (x.Why == nil) != (len(c.want) == 1) || len(c.want) == 2 && x.Why != error(c.want[1]) {
			t.Errorf("%s: its Why is %v", told(t, err), x.Why)
		}
		for n := range api.Errno(300) {
			if errors.Is(err, n) != slices.Contains(c.want, n) {
				t.Errorf("%s: errors.Is for %d", told(t, err), n)
			}
		}
	}
}
