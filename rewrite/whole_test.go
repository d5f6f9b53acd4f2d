package rewrite_test

import (
	"math/rand"
	"slices"
	"testing"

	"ropewalk/api"
	"ropewalk/code"
	"ropewalk/graft"
	"ropewalk/heap"
	"ropewalk/machine"
	"ropewalk/match"
	"ropewalk/rewrite"
	"ropewalk/system"
	"ropewalk/term"
	"ropewalk/tree"
	"ropewalk/unravel"
)

// P18.1 to P18.4, R2: all lists of up to six of some symbols, and of up to four numbers that may not be, too, at all places, by what the document's words say.
func TestAllShortLists(t *testing.T) {
	y := full(t)
	terms, others, redexes := 0, 0, 0
	var lists func(l api.Term, most int, with ...int)
	lists = func(l api.Term, most int, with ...int) {
		if n := agrees(t, y, l, around(l)...); n < 0 {
			others++
		} else {
			terms, redexes = terms+1, redexes+n
		}
		if len(l) == most || t.Failed() {
			return
		}
		for _, n := range with {
			lists(append(slices.Clone(l), n), most, with...)
		}
	}
	lists(nil, 6, z, s, d, r, add)
	lists(nil, 4, z, s, k, -1, -100, lacking)
	if terms < 700 || others < 15000 || redexes < 1500 {
		t.Errorf("%d terms, %d others, %d redexes", terms, others, redexes)
	}
}

// P18.1 to P18.4, R2: systems and terms that a seed chooses; and lists that are such a term but for one number.
func TestByChance(t *testing.T) {
	random := rand.New(rand.NewSource(18))
	redexes, normal, none := 0, 0, 0
	for range 3000 {
		y, l := someScene(t, random)
		if len(l) > 100 {
			continue
		}
		n := agrees(t, y, l, around(l)...)
		redexes += n
		if n == 0 {
			normal++
		}
		spoilt := slices.Clone(l)
		spoilt[random.Intn(len(l))] = random.Intn(13) - 2
		if random.Intn(3) == 0 {
			spoilt = append(spoilt, 0)
		}
		if agrees(t, y, spoilt, 0, random.Intn(len(l)), len(l)) < 0 {
			none++
		}
		if t.Failed() {
			t.FailNow()
		}
	}
	if redexes < 5000 || normal < 500 || none < 500 {
		t.Errorf("%d redexes, %d terms in normal form, %d that are none", redexes, normal, none)
	}
}

// faultless is a call's answer where no error may be.
func faultless[T any](t testing.TB, x T, err error) T {
	t.Helper()
	if err != nil {
		t.Fatal(told(t, err))
	}
	return x
}

// P18.2, P18.4, P18.5: the calls agree with one another, by what they answer alone.
func agree(t testing.TB, y *system.System, l api.Term) {
	t.Helper()
	s := y.Sig()
	all, err := rewrite.Redexes(y, l)
	faultless(t, all, err)
	isNormal, err := rewrite.Normal(y, l)
	if faultless(t, isNormal, err) != (len(all) == 0) {
		t.Fatalf("Normal of %v: %t; %s", l, isNormal, shown(all...))
	}
	outer, hasOuter, err := rewrite.Outer(y, l)
	faultless(t, outer, err)
	inner, hasInner, err := rewrite.Inner(y, l)
	faultless(t, inner, err)
	if hasOuter != (len(all) > 0) || hasInner != hasOuter {
		t.Fatalf("of %v: %t, %t; %s", l, hasOuter, hasInner, shown(all...))
	}
	if hasOuter && (outer != all[0] || !slices.Contains(all, inner)) {
		t.Fatalf("of %v: %s, %s; %s", l, shown(outer), shown(inner), shown(all...))
	}
	for n, x := range all {
		if n > 0 && all[n-1].Place >= x.Place {
			t.Fatalf("Redexes of %v: %s", l, shown(all...))
		}
		if end, _ := term.End(s, l, x.Place); x != outer && x.Place < outer.Place && outer.Place < end {
			t.Fatalf("of %v: %s lies in %s", l, shown(outer), shown(x))
		}
		end, _ := term.End(s, l, x.Place)
		holds := slices.ContainsFunc(all, func(other api.Redex) bool { return x.Place < other.Place && other.Place < end })
		if holds != (x.Place < inner.Place) && x.Place <= inner.Place {
			t.Fatalf("of %v: %s; %s", l, shown(inner), shown(all...))
		}
	}
	for place := range l {
		rule, fits, err := rewrite.At(y, l, place)
		faultless(t, rule, err)
		if fits != slices.Contains(all, api.Redex{Place: place, Rule: rule}) {
			t.Fatalf("At of %v, %d: %d, %t; %s", l, place, rule, fits, shown(all...))
		}
		contracts(t, y, l, place, rule, fits)
	}
}

// P18.3, P18.5: Contract does the rule that At tells: what is to the left of the place stays, and what stands behind its subterm; between them stands the instance.
func contracts(t testing.TB, y *system.System, l api.Term, place, rule int, fits bool) {
	t.Helper()
	u, done, err := rewrite.Contract(y, l, place)
	if !fits {
		if told(t, err)[:4] != "182@" || done != 0 || len(u) > 0 {
			t.Fatalf("Contract of %v, %d, where no rule fits: %v, %d, %v", l, place, u, done, err)
		}
		return
	}
	if faultless(t, done, err) != rule {
		t.Fatalf("Contract of %v, %d, where %d fits: %d", l, place, rule, done)
	}
	x, _ := y.Rules().At(rule)
	end, _ := term.End(y.Sig(), l, place)
	binds, ok, e := match.Match(y.Sig(), x.Left, l, place)
	part, e2 := match.Apply(y.Sig(), x.Right, binds)
	if !ok || e != api.OK || e2 != api.OK {
		t.Fatalf("%v at %d is no instance of %v", l, place, x.Left)
	}
	behind := len(u) - (len(l) - end)
	if behind < place || !slices.Equal(u[:place], l[:place]) || !slices.Equal(u[behind:], l[end:]) || !slices.Equal(u[place:behind], part) {
		t.Fatalf("Contract of %v, %d: %v", l, place, u)
	}
	if e := term.Check(y.Sig(), u); e != api.OK || len(term.Variables(u)) > 0 {
		t.Fatalf("Contract of %v, %d: %v: %v", l, place, u, e)
	}
}

// P18.5: the calls agree with one another, and with match: terms that a seed chooses, and reductions of them.
func TestTheyAgree(t *testing.T) {
	random := rand.New(rand.NewSource(19))
	steps := 0
	for range 600 {
		y, l := someScene(t, random)
		for range 4 {
			if len(l) > 200 {
				break
			}
			agree(t, y, l)
			all, _ := rewrite.Redexes(y, l)
			if len(all) == 0 {
				break
			}
			l, _, _ = rewrite.Contract(y, l, all[random.Intn(len(all))].Place)
			steps++
		}
	}
	if steps < 800 {
		t.Errorf("%d steps", steps)
	}
}

// P18.2: a rule fits where a walk through the symbol's case tree, or its code, comes to it.
func TestCaseTreesAgree(t *testing.T) {
	random := rand.New(rand.NewSource(20))
	fitting, others := 0, 0
	for range 600 {
		y, l := someScene(t, random)
		if len(l) > 200 {
			continue
		}
		compiled := y.Code()
		for place, symbol := range l {
			rule, fits, err := rewrite.At(y, l, place)
			faultless(t, rule, err)
			c, err := y.Tree(symbol)
			if err != nil { // a constructor
				if fits {
					t.Fatalf("the rule %d fits %v at %d", rule, l, place)
				}
				continue
			}
			walked, e := tree.Walk(y.Sig(), c, l, place)
			ran, e2 := code.Run(compiled, symbol, code.Over(y.Sig(), l), place)
			if e != api.OK || e2 != api.OK || fits != (walked.Kind == api.Fits) || fits != (ran.Kind == api.Fits) {
				t.Fatalf("%v at %d: %t, %v, %v", l, place, fits, walked, ran)
			}
			if fits && (rule != walked.Rule || rule != ran.Rule) {
				t.Fatalf("%v at %d: %d, %v, %v", l, place, rule, walked, ran)
			}
			if fits {
				fitting++
			} else {
				others++
			}
		}
	}
	if fitting < 1000 || others < 1000 {
		t.Errorf("%d fit, %d do not", fitting, others)
	}
}

// W1: a machine's Contract is Contract at each copy of the node; and where it is Done, the term is in normal form.
func TestMachineAgrees(t *testing.T) {
	random := rand.New(rand.NewSource(21))
	contracted, done := 0, 0
	for range 400 {
		y, l := someScene(t, random)
		h, _ := heap.New(2000)
		a, err := graft.Load(y.Sig(), h, l)
		if err != nil {
			continue
		}
		m, _ := machine.New(y, h)
		m.Start(a)
		for range 60 {
			root, _ := m.Root()
			node, _, _ := m.Focus()
			copies, _ := unravel.Copies(h, root, node)
			x, err := m.Step()
			if err != nil || x.Kind == api.Done && !isNormal(t, y, l) {
				t.Fatalf("%v, %v at %v", x, err, l)
			}
			if x.Kind == api.Done {
				done++
				break
			}
			if x.Kind != api.Contract {
				continue
			}
			for _, place := range slices.Backward(copies) { // from the right: so the others stay where they are
				u, rule, err := rewrite.Contract(y, l, place)
				if faultless(t, rule, err) != x.Rule {
					t.Fatalf("the rule %d fits %v at %d, not %d", rule, l, place, x.Rule)
				}
				l = u
			}
			contracted++
			root, _ = m.Root()
			now, err := unravel.Term(h, root)
			if !slices.Equal(faultless(t, now, err), l) {
				t.Fatalf("%v, not %v", now, l)
			}
			if len(l) > 150 {
				break
			}
		}
	}
	if contracted < 1500 || done < 200 {
		t.Errorf("%d contracted, %d done", contracted, done)
	}
}

func isNormal(t testing.TB, y *system.System, l api.Term) bool {
	t.Helper()
	is, err := rewrite.Normal(y, l)
	return faultless(t, is, err)
}
