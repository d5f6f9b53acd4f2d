package need_test

import (
	"math/rand"
	"slices"
	"testing"

	"ropewalk/api"
	"ropewalk/code"
	"ropewalk/graft"
	"ropewalk/heap"
	"ropewalk/machine"
	"ropewalk/need"
	"ropewalk/residual"
	"ropewalk/rewrite"
	"ropewalk/system"
	"ropewalk/term"
	"ropewalk/unravel"
)

// P20.1 to P20.3, R2: all lists of up to six of some symbols, of up to five of others, and of up to four numbers that may not be, too, by what the document's words say.
func TestAllShortLists(t *testing.T) {
	y := full(t)
	w := wordsOf(y)
	terms, others := 0, 0
	var lists func(l api.Term, most int, with ...int)
	lists = func(l api.Term, most int, with ...int) {
		if agrees(t, y, w, l, -1, 0, 1, 2, 7) {
			terms++
		} else {
			others++
		}
		if len(l) == most || t.Failed() {
			return
		}
		for _, n := range with {
			lists(append(slices.Clone(l), n), most, with...)
		}
	}
	lists(nil, 6, z, s, r, p, add)
	lists(nil, 5, r, s, d, k, f)
	lists(nil, 6, z, r, add, f)
	lists(nil, 4, z, s, k, -1, -100, lacking)
	if terms < 700 || others < 20000 {
		t.Errorf("%d terms, %d others", terms, others)
	}
}

// P20.1 to P20.3, R2: systems and terms that a seed chooses, and reductions of them; and lists that are such a term but for one number.
func TestByChance(t *testing.T) {
	random := rand.New(rand.NewSource(20))
	roots, beneath, hanging, normal, rigid, none := 0, 0, 0, 0, 0, 0
	for range 1000 {
		y, l := someScene(t, random)
		w := wordsOf(y)
		for range 4 {
			if len(l) > 80 {
				break
			}
			agrees(t, y, w, l, 0, 1+random.Intn(4), 12)
			x := w.whole(l)
			one, ok := w.needed(x)
			switch {
			case !ok:
				normal++
			case one.Place == 0:
				roots++
			case w.isRigid(x):
				beneath++
			default:
				hanging++
			}
			for place, symbol := range l {
				if w.symbols[symbol].Defined && w.isRigid(x.sub(place)) {
					rigid++
				}
			}
			redexes := w.redexes(x)
			if t.Failed() || len(redexes) == 0 {
				break
			}
			l = w.contracted(x, redexes[random.Intn(len(redexes))].Place).list()
		}
		spoilt := slices.Clone(l)
		spoilt[random.Intn(len(l))] = random.Intn(13) - 2
		if random.Intn(3) == 0 {
			spoilt = append(spoilt, 0)
		}
		if len(l) <= 80 && !agrees(t, y, w, spoilt, 0, 3) {
			none++
		}
		if t.Failed() {
			t.FailNow()
		}
	}
	if roots < 600 || beneath < 500 || hanging < 200 || normal < 300 || rigid < 5000 || none < 400 {
		t.Errorf("the root %d times, beneath a rigid one %d, demanded %d; %d in normal form, %d rigid places of defined symbols, %d that are none", roots, beneath, hanging, normal, rigid, none)
	}
}

// P20.4: there is a needed place just if the term is not in normal form; a rule fits there. And what is a redex is not rigid; what is in normal form is, everywhere.
func TestNeededJustIfNotNormal(t *testing.T) {
	random := rand.New(rand.NewSource(21))
	needed, normal := 0, 0
	for range 1200 {
		y, l := someScene(t, random)
		if len(l) > 100 {
			continue
		}
		isNormal, _ := rewrite.Normal(y, l)
		x, found, err := need.Find(y, l)
		if err != nil || found == isNormal {
			t.Fatalf("Find of %v: %v, %t, %v; Normal: %t", l, x, found, err, isNormal)
		}
		if !found {
			normal++
		} else {
			needed++
		}
		if rule, fits, _ := rewrite.At(y, l, x.Place); fits != found || rule != x.Rule {
			t.Fatalf("Find of %v: %v; At: %d, %t", l, x, rule, fits)
		}
		for place := range l {
			isRigid, err := need.Rigid(y, l, place)
			_, fits, _ := rewrite.At(y, l, place)
			if err != nil || isRigid && fits || isNormal && !isRigid {
				t.Fatalf("Rigid of %v, %d: %t, %v; At: %t; Normal: %t", l, place, isRigid, err, fits, isNormal)
			}
		}
	}
	if needed < 500 || normal < 100 {
		t.Errorf("%d needed, %d in normal form", needed, normal)
	}
}

// state is a term to which reductions lead, of so many steps at least; and which of its places descend from one that was named at first.
type state struct {
	term  api.Term
	named []int
	steps int
}

func (x state) key() string { return numbers(x.term) + numbers(x.named) }

// reductions are all to which reductions lead that contract no named place, the shortest first; not all, if there are more than so many, or one is too long.
func reductions(t testing.TB, y *system.System, l api.Term, named []int, most int) ([]state, bool) {
	t.Helper()
	all := []state{{l, named, 0}}
	met := map[string]int{all[0].key(): 0}
	for n := 0; n < len(all); n++ {
		redexes, err := rewrite.Redexes(y, all[n].term)
		if err != nil {
			t.Fatal(told(t, err))
		}
		for _, r := range redexes {
			if slices.Contains(all[n].named, r.Place) {
				continue
			}
			u, to, err := residual.Step(y, all[n].term, r.Place, all[n].named)
			x := state{u, to, all[n].steps + 1}
			if err != nil || len(u) > 60 || len(all) == most {
				return all, false
			}
			if _, ok := met[x.key()]; !ok {
				met[x.key()] = len(all)
				all = append(all, x)
			}
		}
	}
	return all, true
}

func isNormal(t testing.TB, y *system.System, l api.Term) bool {
	t.Helper()
	is, err := rewrite.Normal(y, l)
	if err != nil {
		t.Fatal(told(t, err))
	}
	return is
}

// P20.4: each reduction to a normal form contracts a descendant of the needed place: those that contract none lead to no normal form.
func TestEachReductionContractsIt(t *testing.T) {
	random := rand.New(rand.NewSource(22))
	asked, others, normal := 0, 0, 0
	for range 1500 {
		y, l := someScene(t, random)
		x, found, err := need.Find(y, l)
		if err != nil || !found || len(l) > 40 {
			continue
		}
		all, _ := reductions(t, y, l, []int{x.Place}, 60)
		for _, to := range all {
			if isNormal(t, y, to.term) {
				t.Fatalf("%v leads to %v without a descendant of %v", l, to.term, x)
			}
		}
		asked++
		if len(all) > 1 {
			others++
		}
		if all, isAll := reductions(t, y, l, nil, 60); isAll && slices.ContainsFunc(all, func(to state) bool { return isNormal(t, y, to.term) }) {
			normal++
		}
	}
	if asked < 500 || others < 300 || normal < 300 {
		t.Errorf("%d were asked, %d of which have another redex; %d have a normal form", asked, others, normal)
	}
}

// P20.4: where some reduction leads to a normal form, Reduce comes to it, and each of its steps on the way.
func TestReduceComesToIt(t *testing.T) {
	random := rand.New(rand.NewSource(23))
	met, more, fewer := 0, 0, 0
	for range 2500 {
		y, l := someScene(t, random)
		if len(l) > 40 {
			continue
		}
		all, _ := reductions(t, y, l, nil, 60)
		n := slices.IndexFunc(all, func(to state) bool { return isNormal(t, y, to.term) })
		if n < 0 || n == 0 {
			continue
		}
		u, steps, end, err := need.Reduce(y, l, 1000)
		if err != nil || !end || !slices.Equal(u, all[n].term) {
			t.Fatalf("Reduce of %v: %v, %d, %t, %v; a reduction leads to %v", l, u, steps, end, err, all[n].term)
		}
		met++
		if steps > all[n].steps {
			more++ // what is copied is contracted several times
		} else {
			fewer++
		}
		for most := range steps {
			v, part, end, err := need.Reduce(y, l, most)
			w, rest, last, err2 := need.Reduce(y, v, 1000)
			if err != nil || err2 != nil || end || !last || part != most || part+rest != steps || !slices.Equal(w, u) {
				t.Fatalf("Reduce of %v by %d: %v, %d, %t, %v; from there on %v, %d, %t", l, most, v, part, end, err, w, rest, last)
			}
		}
	}
	if met < 500 || more < 10 || fewer < 300 {
		t.Errorf("%d were met: %d took more, %d did not", met, more, fewer)
	}
}

// P20.3: Reduce contracts what Find finds.
func TestReduceIsFind(t *testing.T) {
	random := rand.New(rand.NewSource(24))
	steps := 0
	for range 1000 {
		y, l := someScene(t, random)
		u := l
		for n := range 12 {
			v, did, end, err := need.Reduce(y, l, n)
			x, found, err2 := need.Find(y, u)
			if err != nil || err2 != nil || did != n || end == found || !slices.Equal(u, v) {
				t.Fatalf("Reduce of %v by %d: %v, %d, %t, %v; step by step %v, and %v, %t, %v", l, n, v, did, end, err, u, x, found, err2)
			}
			if u, _, err = rewrite.Contract(y, u, x.Place); !found || err != nil || len(u) > 150 {
				break
			}
			steps++
		}
	}
	if steps < 2000 {
		t.Errorf("%d steps", steps)
	}
}

// P20.4: what is rigid stays so, with the same symbol, where no place above or at it is contracted: whatever is contracted beside it or in it, as often as one likes.
func TestRigidStays(t *testing.T) {
	random := rand.New(rand.NewSource(25))
	beside, within, defined := 0, 0, 0
	for range 400 {
		y, l := someScene(t, random)
		for range 8 {
			redexes, _ := rewrite.Redexes(y, l)
			if len(l) > 100 || len(redexes) == 0 {
				break
			}
			x := redexes[random.Intn(len(redexes))]
			end, _ := term.End(y.Sig(), l, x.Place)
			for place, symbol := range l {
				isRigid, _ := need.Rigid(y, l, place)
				if !isRigid || x.Place <= place && place < end {
					continue
				}
				u, to, err := residual.Step(y, l, x.Place, []int{place})
				if err != nil || len(to) != 1 || u[to[0]] != symbol {
					t.Fatalf("Step of %v at %d for %d: %v, %v, %v", l, x.Place, place, u, to, err)
				}
				if stays, err := need.Rigid(y, u, to[0]); err != nil || !stays {
					t.Fatalf("%v at %d is rigid; %v at %d: %t, %v", l, place, u, to[0], stays, err)
				}
				if behind, _ := term.End(y.Sig(), l, place); x.Place < behind && place < x.Place {
					within++
					if s, _ := y.Sig().At(symbol); s.Defined {
						defined++
					}
				} else {
					beside++
				}
			}
			l, _, _ = rewrite.Contract(y, l, x.Place)
		}
	}
	if beside < 10000 || within < 1000 || defined < 400 {
		t.Errorf("%d beside, %d within, %d of them at defined symbols", beside, within, defined)
	}
}

// DOC.md, Words: a walk, as tree and code tell it of one place alone, where the places that it demands are looked at in turn.
func TestWalksAgree(t *testing.T) {
	random := rand.New(rand.NewSource(26))
	fits, rigid, hanging := 0, 0, 0
	for range 800 {
		y, l := someScene(t, random)
		if len(l) > 150 {
			continue
		}
		compiled, view := y.Code(), code.Over(y.Sig(), l)
		for place, symbol := range l {
			got, err := need.Rigid(y, l, place)
			found, e := code.Run(compiled, symbol, view, place)
			if err != nil {
				t.Fatal(told(t, err))
			}
			want := true
			switch {
			case e == api.OK && found.Kind == api.Fits:
				fits++
				want = false
			case e == api.OK && found.Kind == api.Demand:
				hanging++
				want, _ = need.Rigid(y, l, found.Node)
			default:
				rigid++
			}
			if got != want {
				t.Fatalf("Rigid of %v, %d: %t; %v", l, place, got, found)
			}
		}
	}
	if fits < 1000 || rigid < 3000 || hanging < 500 {
		t.Errorf("%d fit, %d are rigid, %d demand another one", fits, rigid, hanging)
	}
}

// begun is a machine that was started on a term, and its heap.
func begun(t testing.TB, y *system.System, l api.Term) (*machine.Machine, *heap.Heap) {
	t.Helper()
	h, _ := heap.New(4000)
	a, err := graft.Load(y.Sig(), h, l)
	if err != nil {
		t.Fatal(told(t, err))
	}
	m, _ := machine.New(y, h)
	if e := m.Start(a); e != api.OK {
		t.Fatal(e)
	}
	return m, h
}

// rootOf is the term of a machine's root.
func rootOf(t testing.TB, m *machine.Machine, h *heap.Heap) api.Term {
	t.Helper()
	root, _ := m.Root()
	l, err := unravel.Term(h, root)
	if err != nil {
		t.Fatal(told(t, err))
	}
	return l
}

// W2: the spine's path to the node that a machine contracts leads to the needed place; where it is Done, there is none. P15.6: what it marks is so.
func TestMachineAgrees(t *testing.T) {
	random := rand.New(rand.NewSource(27))
	contracted, stiff, done, marked := 0, 0, 0, 0
	for range 700 {
		y, l := someScene(t, random)
		if len(l) > 150 {
			continue
		}
		m, h := begun(t, y, l)
		for range 80 {
			before := rootOf(t, m, h)
			x, err := m.Step()
			if err != nil || len(before) > 120 {
				break
			}
			needed, found, err := need.Find(y, before)
			if err != nil {
				t.Fatal(told(t, err))
			}
			switch x.Kind {
			case api.Contract:
				place, _ := term.Place(y.Sig(), before, x.Path...)
				if !found || needed != (api.Redex{Place: place, Rule: x.Rule}) {
					t.Fatalf("Find of %v: %v, %t; the machine: %v", before, needed, found, x)
				}
				contracted++
			case api.Stiff:
				root, _ := m.Root()
				copies, _ := unravel.Copies(h, root, x.Node)
				for _, place := range copies {
					if isRigid, err := need.Rigid(y, before, place); !isRigid || err != nil {
						t.Fatalf("Rigid of %v, %d: %t, %v; the machine: %v", before, place, isRigid, err, x)
					}
				}
				stiff++
			}
			if x.Kind == api.Done {
				if found {
					t.Fatalf("Find of %v: %v; the machine is done", before, needed)
				}
				done++
				break
			}
		}
		marked += marksAreTrue(t, y, h)
		if t.Failed() {
			t.FailNow()
		}
	}
	if contracted < 2000 || stiff < 800 || done < 300 || marked < 2000 {
		t.Errorf("%d contracted, %d found to be rigid, %d done, %d marked", contracted, stiff, done, marked)
	}
}

// marksAreTrue asks about the term of each marked node: how many there are.
func marksAreTrue(t testing.TB, y *system.System, h *heap.Heap) int {
	t.Helper()
	marked := 0
	for a, x := range h.All() {
		l, err := unravel.Term(h, a)
		if err != nil || x.Mark == api.Fresh || len(l) > 120 {
			continue
		}
		marked++
		isRigid, err := need.Rigid(y, l, 0)
		_, found, err2 := need.Find(y, l)
		if err != nil || err2 != nil || !isRigid || x.Mark == api.Settled && found {
			t.Errorf("%v is marked %d: %t, %t", l, x.Mark, isRigid, found)
		}
	}
	return marked
}

// W3: Reduce comes to the machine's normal form, of no fewer contractions: what is shared there is copied here.
func TestMachineComesToTheSame(t *testing.T) {
	random := rand.New(rand.NewSource(28))
	same, more := 0, 0
	for range 1500 {
		y, l := someScene(t, random)
		u, n, end, err := need.Reduce(y, l, 300)
		if err != nil || !end || n == 0 {
			continue
		}
		m, h := begun(t, y, l)
		contracted, isDone := 0, false
		for range 100 {
			ran, err := m.Run(2000)
			if contracted += ran.Contracted; err != nil {
				t.Fatal(told(t, err))
			}
			if isDone = ran.Done; isDone {
				break
			}
		}
		if got := rootOf(t, m, h); !isDone || !slices.Equal(got, u) || contracted > n {
			t.Fatalf("%v: %v by %d; the machine: %v by %d, %t", l, u, n, got, contracted, isDone)
		}
		if contracted == n {
			same++
		} else {
			more++
		}
	}
	if same < 500 || more < 30 {
		t.Errorf("%d by as many contractions, %d by more", same, more)
	}
}
