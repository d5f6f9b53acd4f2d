package trace_test

import (
	"errors"
	"math/rand"
	"slices"
	"strings"
	"testing"

	"ropewalk/api"
	"ropewalk/graft"
	"ropewalk/heap"
	"ropewalk/machine"
	"ropewalk/notation"
	"ropewalk/residual"
	"ropewalk/system"
	"ropewalk/term"
	"ropewalk/trace"
	"ropewalk/unravel"
)

// everyEntry are entries at each place of a plant, by each rule, and such as lead nowhere.
func (w words) everyEntry(x plant) []api.Fired {
	l := []api.Fired{{Path: []int{2}}, {Rule: 1, Path: []int{-1}}, {Path: []int{0, 0, 0, 0, 0, 0, 0}}}
	for place := range x.size() {
		for rule := -1; rule <= len(w.rules); rule++ {
			l = append(l, api.Fired{Rule: rule, Path: pathTo(x, place)})
		}
	}
	return l
}

// asksAll asks about logs of up to so many entries on a term: behind each that can be done, all that there are.
func (w words) asksAll(t testing.TB, y *system.System, l api.Term, x plant, next, more int, entries ...api.Fired) int {
	t.Helper()
	count := 1
	w.asks(t, y, l, 1000, entries...)
	if more == 0 || t.Failed() {
		return count
	}
	for _, entry := range w.everyEntry(x) {
		all := append(slices.Clone(entries), entry)
		if u, _, ok := w.entry(x, entry, next); ok {
			count += w.asksAll(t, y, l, u, next+len(w.rules[entry.Rule].Right), more-1, all...)
		} else {
			count++
			w.asks(t, y, l, 1000, all...)
		}
	}
	return count
}

// P17.2, R2: all lists of up to so many of some symbols, and of such as may not be; on those that are closed terms all logs of up to three entries, each of which but the last can be done.
func TestAllShortLists(t *testing.T) {
	y := made(t, "con z/0, p/2; fun d/1, r/0, i/1, n/1, h/0", "d(X) -> p(X,X); r -> z; i(X) -> X; n(X) -> p(X,i(X)); h -> p(r,r)")
	w := wordsOf(y)
	terms, others, logs := 0, 0, 0
	var lists func(l api.Term, most, more int, with ...int)
	lists = func(l api.Term, most, more int, with ...int) {
		if w.refusal(l) != "" {
			others++
			w.asks(t, y, l, 1, api.Fired{})
		} else {
			terms++
			logs += w.asksAll(t, y, l, w.whole(l), len(l), more)
		}
		if len(l) == most || t.Failed() {
			return
		}
		for _, n := range with {
			lists(append(slices.Clone(l), n), most, more, with...)
		}
	}
	lists(nil, 4, 2, 0, 1, 2, 3, 4, 5, 6)
	lists(nil, 3, 3, 2, 3, 5, 6)
	lists(nil, 5, 3, 1, 2, 3)
	lists(nil, 3, 1, 0, 2, -1, -100, 7)
	if terms < 200 || others < 2000 || logs < 20000 {
		t.Errorf("%d terms, %d others, %d logs", terms, others, logs)
	}
}

// P17.2, R2: systems, terms and logs that a seed chooses, some of them with too little room; and what can't be done, but for one entry.
func TestByChance(t *testing.T) {
	random := rand.New(rand.NewSource(19))
	done, refused, several := 0, map[string]int{}, 0
	count := func(answer string) {
		if !strings.Contains(answer, "@") {
			done++
			return
		}
		why := ""
		for _, word := range strings.Fields(answer[strings.Index(answer, "]")+1:]) {
			number, _, _ := strings.Cut(word, "@")
			why += " " + number
		}
		refused[why]++
	}
	for range 1800 {
		y, l := someSharing(t, random)
		if len(l) > 100 {
			continue
		}
		w := wordsOf(y)
		entries := w.someEntries(random, l, 1+random.Intn(14))
		count(w.asks(t, y, l, 1000, entries...))
		count(w.asks(t, y, l, 1+random.Intn(6), entries...))
		several += w.several(l, entries)
		if len(entries) > 0 {
			spoilt := &entries[random.Intn(len(entries))]
			if random.Intn(2) == 0 {
				spoilt.Rule = random.Intn(len(w.rules)+2) - 1
			} else {
				spoilt.Path = append(slices.Clone(spoilt.Path), random.Intn(3))
			}
			count(w.asks(t, y, l, 1000, entries...))
			count(w.asks(t, y, l, 1+random.Intn(6), entries...))
		}
		if t.Failed() {
			t.FailNow()
		}
	}
	if done < 3000 || several < 1000 || refused[" 170"] < 1000 || refused[" 170 182"] < 300 {
		t.Errorf("%d done, refused %v, %d at several places", done, refused, several)
	}
}

// several is how many of some entries are done at several places.
func (w words) several(l api.Term, entries []api.Fired) int {
	x, next, count := w.whole(l), len(l), 0
	for _, f := range entries {
		if len(x.bearing(x.sub(x.place(f.Path)).label)) > 1 {
			count++
		}
		x, _, _ = w.entry(x, f, next)
		next += len(w.rules[f.Rule].Right)
	}
	return count
}

// P17.2: what was one node is all places that bear one label: on a graph, where each entry is done at the node to which its path leads, whether it is needed or not, Replay comes to the term of the root.
func TestGraph(t *testing.T) {
	random := rand.New(rand.NewSource(20))
	contracted, several := 0, 0
	for range 1000 {
		y, l := someSharing(t, random)
		if len(l) > 100 {
			continue
		}
		w := wordsOf(y)
		h, _ := heap.New(4000)
		root, err := graft.Load(y.Sig(), h, l)
		if err != nil {
			t.Fatal(told(t, err))
		}
		log := empty(t, 1000)
		for _, f := range w.someEntries(random, l, 14) {
			node := root
			for _, n := range f.Path {
				node = graft.Of(h).Arg(node, n)
			}
			node, _ = h.Resolve(node)
			if copies, _ := unravel.Copies(h, root, node); len(copies) > 1 {
				several++
			}
			built, err := graft.Build(y.Sig(), y.Code(), h, f.Rule, node)
			if err != nil {
				t.Fatal(told(t, err))
			}
			if e := h.Point(node, built); e != api.OK && built != node {
				t.Fatal(e)
			}
			log.Add(f)
			contracted++
			want, err := unravel.Term(h, root)
			if err != nil {
				t.Fatal(told(t, err))
			}
			is(t, "Replay", l, whole(log), replay(t, log, y, l), numbers(want))
		}
		if t.Failed() {
			t.FailNow()
		}
	}
	if contracted < 4000 || several < 1000 {
		t.Errorf("%d contracted, %d of them at several places", contracted, several)
	}
}

// bySteps does entries by chapter 19's Step alone, place by place, and follows by it all places that bear a label.
func bySteps(t testing.TB, y *system.System, l api.Term, entries []api.Fired) api.Term {
	t.Helper()
	groups := map[int][]int{}
	for place := range l {
		groups[place] = []int{place}
	}
	next := len(l)
	for _, f := range entries {
		at, _ := term.Place(y.Sig(), l, f.Path...)
		var label int
		for other, places := range groups {
			if slices.Contains(places, at) {
				label = other
			}
		}
		for _, place := range slices.Backward(groups[label]) {
			u, old, err := residual.Step(y, l, place, rangeOf(len(l)))
			if err != nil {
				t.Fatal(told(t, err))
			}
			for other, places := range groups {
				_, groups[other], _ = residual.Step(y, l, place, places)
			}
			brought := 0
			for new := range u {
				if !slices.Contains(old, new) {
					groups[next+brought] = slices.Sorted(slices.Values(append(groups[next+brought], new)))
					brought++
				}
			}
			l = u
		}
		next += len(l)
	}
	return l
}

// rangeOf are the numbers below one.
func rangeOf(most int) []int {
	l := make([]int, most)
	for n := range l {
		l[n] = n
	}
	return l
}

// P17.2: it agrees with what chapter 19 says of descendants: what stands for a variable, and what lies elsewhere, bears the labels that it bore.
func TestStepAgrees(t *testing.T) {
	random := rand.New(rand.NewSource(21))
	several := 0
	for range 700 {
		y, l := someSharing(t, random)
		if len(l) > 40 {
			continue
		}
		w := wordsOf(y)
		entries := w.someEntries(random, l, 7)
		several += w.several(l, entries)
		is(t, "Replay", l, shown(entries), replay(t, filled(t, 1000, entries...), y, l), numbers(bySteps(t, y, l, entries)))
		if t.Failed() {
			t.FailNow()
		}
	}
	if several < 200 {
		t.Errorf("%d at several places", several)
	}
}

// run is a machine that works a term out, a log of its Contracts, and what may happen meanwhile.
type run struct {
	t       testing.TB
	y       *system.System
	h       *heap.Heap
	machine *machine.Machine
	log     *trace.Log
	l       api.Term
	several int // how many Contracts had several copies
}

// started is one that begins at a term, in a heap of that room, behind some nodes of which nobody speaks.
func started(t testing.TB, y *system.System, room int, l api.Term) *run {
	t.Helper()
	h, _ := heap.New(room)
	for n := range min(5, room-len(l)) {
		h.Make(0)
		_ = n
	}
	a, err := graft.Load(y.Sig(), h, l)
	if err != nil {
		t.Fatal(told(t, err))
	}
	q := &run{t: t, y: y, h: h, log: empty(t, 1000), l: l}
	q.machine, _ = machine.New(y, h)
	if e := q.machine.Start(a); e != api.OK {
		t.Fatal(e)
	}
	return q
}

// steps does one Step, and puts what it contracts into the log: false, if it answers an error or Done.
func (q *run) steps() bool {
	q.t.Helper()
	root, _ := q.machine.Root()
	node, _, _ := q.machine.Focus()
	copies, _ := unravel.Copies(q.h, root, node)
	x, err := q.machine.Step()
	if err != nil || x.Kind == api.Done {
		return false
	}
	if x.Kind == api.Contract {
		q.log.Add(api.Fired{Rule: x.Rule, Path: x.Path})
		if len(copies) > 1 {
			q.several++
		}
	}
	return true
}

// agrees asks whether Replay comes to the term of the root; false, if that is too long.
func (q *run) agrees() bool {
	q.t.Helper()
	root, _ := q.machine.Root()
	want, err := unravel.Term(q.h, root)
	if err != nil {
		_, err := q.log.Replay(q.y, q.l)
		if !errors.Is(err, api.ErrTraceReplay) || !errors.Is(err, api.ErrRewriteLong) {
			q.t.Errorf("Replay of %v by %s: %v, where the root's term is too long", q.l, whole(q.log), err)
		}
		return false
	}
	is(q.t, "Replay", q.l, whole(q.log), replay(q.t, q.log, q.y, q.l), numbers(want))
	return true
}

// happens is what may happen between two Steps: collections, nodes that are held, nodes that are added, rules that come.
func (q *run) happens(random *rand.Rand) {
	q.t.Helper()
	switch random.Intn(12) {
	case 0, 1:
		q.machine.Collect()
	case 2:
		if q.h.Used() > 0 {
			q.machine.Hold([]int{random.Intn(q.h.Used())})
		}
	case 3:
		q.machine.Hold(nil)
	case 4:
		q.h.Make(0)
	case 5:
		q.y.AddRules([]api.Rule{someRule(random, wordsOf(q.y).symbols)})
	}
}

// P17.3: of a machine's log, at each Step, whatever is collected, held, added and learnt meanwhile: Replay comes to the term of the root.
func TestMachine(t *testing.T) {
	random := rand.New(rand.NewSource(23))
	contracted, several := 0, 0
	for range 500 {
		y, l := someSharing(t, random)
		if len(l) > 120 {
			continue
		}
		q := started(t, y, len(l)+random.Intn(60), l)
		for range 80 {
			q.happens(random)
			goesOn := q.steps()
			_, ever := q.log.Len()
			if (ever < 15 || random.Intn(5) == 0) && !q.agrees() || !goesOn || ever > 60 {
				break
			}
		}
		q.agrees()
		if t.Failed() {
			t.FailNow()
		}
		_, ever := q.log.Len()
		contracted += ever
		several += q.several
	}
	if contracted < 4000 || several < 400 {
		t.Errorf("%d contracted, %d of them at several places", contracted, several)
	}
}

// P17.3: machines that go on till they are Done, or for MaxTrace Contracts, in narrow heaps that are collected over and over, and in great ones.
func TestLongRuns(t *testing.T) {
	y := made(t, "con z/0, s/1, p/2; fun add/2, mul/2, d/1, r/0, loop/0, tick/1", "add(z,Y) -> Y; add(s(X),Y) -> s(add(X,Y)); mul(z,Y) -> z; mul(s(X),Y) -> add(Y,mul(X,Y)); d(X) -> p(X,X); r -> s(z); loop -> loop; tick(X) -> tick(s(X))")
	for _, c := range []struct {
		text  string
		room  int
		fewer int // there are at least so many Contracts
	}{
		{"mul(add(s(s(z)),s(s(z))),add(s(s(s(z))),s(s(z))))", 200, 20},
		{"mul(add(s(s(z)),s(s(z))),add(s(s(s(z))),s(s(z))))", 40, 20},
		{"d(d(d(d(mul(s(s(s(z))),add(r,r))))))", 60, 15},
		{"d(d(d(d(mul(s(s(s(z))),add(r,r))))))", 300, 15},
		{"d(d(d(p(add(r,r),d(mul(add(r,r),r))))))", 45, 10},
		{"p(z,d(loop))", 12, 1000},
		{"tick(z)", 1100, 1000},
		{"tick(z)", 30, 20},
		{"d(d(d(d(d(d(d(d(d(d(d(d(r))))))))))))", 100, 9}, // its terms become too long
	} {
		l, err := notation.Term(y.Sig(), c.text)
		if err != nil {
			t.Fatal(told(t, err))
		}
		q := started(t, y, c.room, l)
		for count := 0; q.steps(); count++ {
			_, ever := q.log.Len()
			if ever >= 1000 || (count%50 == 0 || ever < 50) && !q.agrees() {
				break
			}
		}
		q.agrees()
		has, ever := q.log.Len()
		if has != ever || ever < c.fewer {
			t.Errorf("%s in %d: %d of %d entries", c.text, c.room, has, ever)
		}
	}
}

// P17.3: systems, started anew at another node: the log of that start alone is what counts.
func TestStartAnew(t *testing.T) {
	y := full(t)
	q := started(t, y, 60, read(t, y, "d(n(d(r)))"))
	for range 5 {
		q.steps()
	}
	q.agrees()
	l := read(t, y, "d(h)")
	a, err := graft.Load(y.Sig(), q.h, l)
	if err != nil {
		t.Fatal(told(t, err))
	}
	q.machine.Start(a)
	q.l, q.log = l, empty(t, 9)
	q.agrees()
	for q.steps() {
		q.agrees()
	}
	root, _ := q.machine.Root()
	x, _ := unravel.Term(q.h, root)
	is(t, "Replay", l, whole(q.log), replay(t, q.log, y, l), numbers(read(t, y, "p(p(z,z),p(z,z))")))
	if numbers(x) != numbers(read(t, y, "p(p(z,z),p(z,z))")) {
		t.Errorf("%v", x)
	}
}
