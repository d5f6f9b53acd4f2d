package machine_test

import (
	"math/rand"
	"slices"
	"testing"

	"ropewalk/api"
	"ropewalk/graft"
	"ropewalk/machine"
	"ropewalk/system"
)

// reduction is a term to which reductions lead, of so many steps at least; and which of its places descend from one that was named at first.
type reduction struct {
	term  api.Term
	named []bool
	steps int
}

func (x reduction) key() string {
	key := make([]byte, 0, 2*len(x.term))
	for n, symbol := range x.term {
		key = append(key, byte(symbol), 0)
		if x.named[n] {
			key[len(key)-1] = 1
		}
	}
	return string(key)
}

// reductions are all to which reductions lead that contract no named place, the shortest first; not all, if there are more than so many, or one is too long.
func (w words) reductions(t api.Term, named []bool, most int) ([]reduction, bool) {
	l := []reduction{{t, named, 0}}
	met := map[string]int{l[0].key(): 0}
	for n := 0; n < len(l); n++ {
		for _, at := range w.redexes(l[n].term) {
			if l[n].named[at] {
				continue
			}
			term, names := w.contracted(l[n].term, at, w.ruleAt(l[n].term, at), l[n].named)
			x := reduction{term, names, l[n].steps + 1}
			if _, ok := met[x.key()]; ok {
				continue
			}
			if len(l) == most || len(term) > 60 {
				return l, false
			}
			met[x.key()] = len(l)
			l = append(l, x)
		}
	}
	return l, true
}

// loaded is a machine that was started on a term, laid into a heap.
func loaded(t testing.TB, y *system.System, x api.Term, room int) (*machine.Machine, func() api.Term) {
	t.Helper()
	h := empty(t, room)
	a, err := graft.Load(y.Sig(), h, x)
	if err != nil {
		t.Fatal(err)
	}
	m := over(t, y, h)
	is(t, "Start", m.Start(a), api.OK)
	return m, func() api.Term {
		root, _ := m.Root()
		return termOf(nodesOf(h), root)
	}
}

// W2: each reduction of the root's term to a normal form contracts a residual of the place to which a Contract's path leads: those that contract none lead to no normal form.
func TestEachReductionContractsIt(t *testing.T) {
	random := rand.New(rand.NewSource(17))
	asked, normal := 0, 0
	for range 700 {
		y := someSystem(t, random, 12)
		w := wordsOf(t, y)
		m, term := loaded(t, y, someTerm(random, 3), 300)
		for range 30 {
			before := term()
			x, err := m.Step()
			if err != nil || x.Kind == api.Done || len(before) > 40 {
				break
			}
			if x.Kind != api.Contract {
				continue
			}
			named := make([]bool, len(before))
			named[w.along(before, 0, x.Path)] = true
			l, _ := w.reductions(before, named, 200)
			for _, z := range l {
				if w.isNormal(z.term) {
					t.Fatalf("%v leads to %v, without a residual of %v", before, z.term, x.Path)
				}
			}
			asked++
			if plain, all := w.reductions(before, make([]bool, len(before)), 200); all && slices.ContainsFunc(plain, func(z reduction) bool { return w.isNormal(z.term) }) {
				normal++
			}
		}
	}
	if asked < 3000 || normal < 300 {
		t.Errorf("%d were asked, %d of which have a normal form", asked, normal)
	}
}

// W3: the shortest reduction to a normal form has at least as many steps as the machine contracts; and that is the normal form to which it comes.
func TestNoMoreThanAnybody(t *testing.T) {
	random := rand.New(rand.NewSource(18))
	met := 0
	for range 3000 {
		y := someSystem(t, random, 12)
		w := wordsOf(t, y)
		x := someTerm(random, 3)
		l, _ := w.reductions(x, make([]bool, len(x)), 300)
		n := slices.IndexFunc(l, func(z reduction) bool { return w.isNormal(z.term) })
		if n < 0 {
			continue
		}
		m, term := loaded(t, y, x, 600)
		ran, err := m.Run(2000)
		if err != nil || !ran.Done || ran.Contracted > l[n].steps || !slices.Equal(term(), l[n].term) {
			t.Fatalf("%v: %v, %v, %v; a reduction leads to %v, of %d steps", x, ran, err, term(), l[n].term, l[n].steps)
		}
		if l[n].steps > 0 {
			met++
		}
	}
	if met < 800 {
		t.Errorf("%d were met", met)
	}
}

// W3: where only a lazy reduction leads to a normal form, the machine comes to it.
func TestWhatIsNotNeeded(t *testing.T) {
	for text, want := range map[string]string{
		"k(z,loop)":                      "z",
		"add(z,k(s(z),loop))":            "s z",
		"k(k(r,loop),d(loop))":           "z",
		"f(p(z,s(z)),k(z,loop),i(z))":    "six z z z z z s p z z",
		"k(add(s(s(z)),r),add(loop,r))":  "s s z",
		"d(k(z,loop))":                   "p z z",
		"six(z,z,k(r,loop),i(z),d(r),r)": "six z z z z p z z z",
	} {
		m, h := begun(t, 60, text)
		x, err := m.Run(2000)
		root, _ := m.Root()
		if got := shownTerm(termOf(nodesOf(h), root)); err != nil || !x.Done || got != want {
			t.Errorf("%s: %v, %v, %s, not %s", text, x, err, got, want)
		}
	}
}

// W3: what is shared is contracted once: n contractions, where rewriting without sharing does 2^n - 1.
func TestShared(t *testing.T) {
	y := made(t, declared, "d(X) -> p(X,X); i(X) -> X; r -> z")
	for n := 1; n < 200; n++ {
		h := empty(t, 600)
		a, _ := h.Make(r)
		for range n {
			a, _ = h.Make(d, a)
		}
		m := over(t, y, h)
		is(t, "Start", m.Start(a), api.OK)
		runs(t, m, 2000, api.Ran{Steps: 6*n + 2 - n, Contracted: n + 1, Done: true}, "")
	}
}

// P15.7: graphs that take long: no more steps than 15 u + f + 1 without a Contract, by however many places a node stands in.
func TestLongWays(t *testing.T) {
	y := full(t)
	for name, symbol := range map[string]int{"constructors": six, "rigid ones": g} {
		h := empty(t, 4000)
		a, _ := h.Make(z)
		for range 3998 {
			a, _ = h.Make(symbol, a, a, a, a, a, a)
		}
		m := over(t, y, h)
		is(t, "Start", m.Start(a), api.OK)
		steps, isDone := 0, false
		for steps <= 15*3999+1+1 && !isDone {
			x, err := m.Run(2000)
			if err != nil {
				t.Fatal(err)
			}
			steps, isDone = steps+x.Steps, x.Done
		}
		if !isDone {
			t.Errorf("%s: %d steps", name, steps)
		}
	}
}

// P15.2, R1: deep graphs: frames as many as there are nodes, contractions beneath them, and collections.
func TestDeep(t *testing.T) {
	y := full(t)
	h := empty(t, 4000)
	a, _ := h.Make(z)
	for range 1000 {
		a, _ = h.Make(s, a)
	}
	for range 10 {
		a, _ = h.Make(add, a, 0)
	}
	m := over(t, y, h)
	is(t, "Start", m.Start(a), api.OK)
	contracted, isDone := 0, false
	for range 100 {
		x, err := m.Run(2000)
		if err != nil {
			t.Fatal(err)
		}
		contracted, isDone = contracted+x.Contracted, x.Done
	}
	if contracted != 10*1001 || !isDone {
		t.Errorf("%d contractions", contracted)
	}
	m.Collect()
	if h.Used() != 1001 {
		t.Errorf("%d nodes are left", h.Used())
	}
	// A long way of indirections.
	h = empty(t, 4000)
	a, _ = h.Make(z)
	for range 3999 {
		a, _ = h.Make(i, a)
	}
	m = over(t, y, h)
	is(t, "Start", m.Start(a), api.OK)
	runs(t, m, 2000, api.Ran{Steps: 2000, Contracted: 2000}, "")
	runs(t, m, 2000, api.Ran{Steps: 2000, Contracted: 1999}, "")
	steps(t, m, "done")
	collects(t, m, 3999)
	has(t, h, "z!!")
}
