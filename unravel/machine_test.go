package unravel_test

import (
	"testing"

	"ropewalk/api"
	"ropewalk/graft"
	"ropewalk/heap"
	"ropewalk/machine"
	"ropewalk/match"
	"ropewalk/notation"
	"ropewalk/rules"
	"ropewalk/system"
	"ropewalk/term"
	"ropewalk/unravel"
)

// run is a machine at work, and what it is over.
type run struct {
	asked
	rules   *rules.Store
	machine *machine.Machine
}

// started is a machine that begins at a term.
func started(t testing.TB, room int, symbols, texts, begin string) run {
	t.Helper()
	y := system.New()
	l, _ := notation.Symbols(symbols)
	if err := y.AddSymbols(l); err != nil {
		t.Fatal(told(t, err))
	}
	k, _ := notation.Rules(y.Sig(), texts)
	if err := y.AddRules(k); err != nil {
		t.Fatal(told(t, err))
	}
	h, _ := heap.New(room)
	x, _ := notation.Term(y.Sig(), begin)
	a, err := graft.Load(y.Sig(), h, x)
	if err != nil {
		t.Fatal(told(t, err))
	}
	m, _ := machine.New(y, h)
	if e := m.Start(a); e != api.OK {
		t.Fatal(e)
	}
	return run{asked{t, y.Sig(), h}, y.Rules(), m}
}

// root is where the machine's root is.
func (q run) root() int {
	q.t.Helper()
	a, e := q.machine.Root()
	if e != api.OK {
		q.t.Fatal(e)
	}
	return a
}

// copiesOf are the term of the root, and the places of it at which a node stands; no places, if the term is too long.
func (q run) copiesOf(node int) (api.Term, []int) {
	q.t.Helper()
	x, err := unravel.Term(q.h, q.root())
	if err != nil {
		return nil, nil
	}
	l, err := unravel.Copies(q.h, q.root(), node)
	if err != nil {
		q.t.Fatal(told(q.t, err))
	}
	return x, l
}

// contracted is a term in which places, none of which lies in another one, are contracted by a rule.
func (q run) contracted(x api.Term, places []int, rule int) api.Term {
	q.t.Helper()
	for i := len(places) - 1; i >= 0; i-- {
		one, _ := q.rules.At(rule)
		binds, ok, e := match.Match(q.g, one.Left, x, places[i])
		if !ok || e != api.OK {
			q.t.Fatalf("the rule %d does not fit at %d of %v", rule, places[i], x)
		}
		sub, _ := match.Apply(q.g, one.Right, binds)
		if x, e = term.Put(q.g, x, places[i], sub); e != api.OK {
			q.t.Fatal(e)
		}
	}
	return x
}

// goesOn does Steps till nothing is left, and asks at each for what W1 says of the terms, by Copies and Term: how many Steps contracted, and how many copies they had.
func (q run) goesOn() (int, int) {
	q.t.Helper()
	count, copies := 0, 0
	for range 500 {
		node, _, e := q.machine.Focus()
		if e != api.OK {
			return count, copies
		}
		x, places := q.copiesOf(node)
		step, err := q.machine.Step()
		if err != nil {
			q.t.Fatal(told(q.t, err))
		}
		if step.Kind != api.Contract {
			places = nil
		} else {
			count++
			copies += len(places)
		}
		q.term(q.root(), q.contracted(x, places, step.Rule)...)
		q.copies(q.root(), q.root(), 0)
	}
	q.t.Fatal("it does not end")
	return 0, 0
}

// W1: a Step that contracts a node contracts all its copies, which Copies tells, in the term that Term tells; other Steps, and collections, turn no term.
func TestStepByStep(t *testing.T) {
	const symbols = "con z/0, s/1, p/2; fun d/1, r/0, add/2, q/1"
	const texts = "d(X) -> p(X,X); r -> z; add(z,Y) -> Y; add(s(X),Y) -> s(add(X,Y)); q(p(X,Y)) -> add(X,Y)"
	for _, c := range []struct {
		room             int
		begin, text      string
		contract, copies int
	}{
		{40, "d(r)", "p(1:z,*1)", 2, 3},
		{40, "d(d(d(r)))", "p(1:p(2:p(3:z,*3),*2),*1)", 4, 15},
		{40, "d(s(q(d(s(add(r,s(r)))))))", "p(1:s(s(s(s(s(z))))),*1)", 9, 23},
		{14, "q(d(add(s(r),s(s(z)))))", "s(s(s(s(s(s(z))))))", 9, 12},
		{40, "add(d(r),s(r))", "add(p(1:z,*1),s(z))", 3, 4},
	} {
		q := started(t, c.room, symbols, texts, c.begin)
		contract, copies := q.goesOn()
		if contract != c.contract || copies != c.copies {
			t.Errorf("%s: %d contracted, %d copies", c.begin, contract, copies)
		}
		q.sharing(q.root(), c.text)
		q.machine.Collect()
		q.sharing(q.root(), c.text)
	}
}

// P16.4, P16.5: the document's examples of the whole, 1 to 4, 6 and 7, as far as they show terms.
func TestExamplesOfTheWhole(t *testing.T) {
	for _, c := range []struct {
		room                  int
		symbols, rules, begin string
		first, last           string // behind a Step, and at the end
	}{
		{40, "con z/0, s/1, p/2; fun d/1, r/0", "d(X) -> p(X,X); r -> z", "d(r)", "p(r,r)", "p(z,z)"},
		{40, "con z/0, s/1; fun add/2", "add(z,X) -> X; add(s(X),Y) -> s(add(X,Y))", "add(s(z),s(z))", "s(add(z,s(z)))", "s(s(z))"},
		{9, "con a/0; fun k/2, loop/0", "k(X,Y) -> X; loop -> loop", "k(a,loop)", "a", "a"},
		{9, "con z/0, s/1; fun d/1", "d(z) -> z", "d(s(z))", "d(s(z))", "d(s(z))"},
		{2, "con p/2, z/0; fun d/1, r/0", "d(X) -> p(X,X); r -> z", "d(r)", "d(r)", "d(r)"},
		{40, "con z/0, p/2; fun d/1", "d(X) -> p(X,X)", "d(d(d(d(d(d(d(d(z))))))))", "", "p(1:p(2:p(3:p(4:p(5:p(6:p(7:p(8:z,*8),*7),*6),*5),*4),*3),*2),*1)"},
	} {
		q := started(t, c.room, c.symbols, c.rules, c.begin)
		q.machine.Step()
		if c.first != "" {
			q.print(q.root(), api.MaxPrint, c.first)
		}
		q.machine.Run(100)
		q.print(q.root(), api.MaxPrint, c.last)
		q.machine.Collect()
		q.print(q.root(), api.MaxPrint, c.last)
	}
}
