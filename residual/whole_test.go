package residual_test

import (
	"errors"
	"math/rand"
	"slices"
	"testing"

	"ropewalk/api"
	"ropewalk/graft"
	"ropewalk/heap"
	"ropewalk/machine"
	"ropewalk/residual"
	"ropewalk/rewrite"
	"ropewalk/system"
	"ropewalk/term"
	"ropewalk/unravel"
)

// P19.1 to P19.3, R2: all lists of up to five or six of some symbols, and of up to three numbers that may not be, too: all places contracted and followed, one by one and two at a time, and all reductions of up to two moves, by what the document's words say.
func TestAllShortLists(t *testing.T) {
	y := full(t)
	w := wordsOf(y)
	terms, others := 0, 0
	var lists func(l api.Term, most int, with ...int)
	lists = func(l api.Term, most int, with ...int) {
		if w.refusal(l) != "" {
			others++
			w.asksStep(t, y, l, 0, 0)
			w.asksTogether(t, y, l, 0)
			w.asksThrough(t, y, l, []api.Move{{}}, 0)
		} else {
			terms++
			w.asksAllSteps(t, y, l)
			w.asksAllTogether(t, y, l)
			w.asksAllThrough(t, y, l)
		}
		if len(l) == most || t.Failed() {
			return
		}
		for _, n := range with {
			lists(append(slices.Clone(l), n), most, with...)
		}
	}
	lists(nil, 6, z, s, d, add)
	lists(nil, 5, r, p, k, i)
	lists(nil, 3, z, s, k, -1, -100, lacking)
	if terms < 200 || others < 5000 {
		t.Errorf("%d terms, %d others", terms, others)
	}
}

func (w words) asksAllSteps(t testing.TB, y *system.System, l api.Term) {
	t.Helper()
	for _, at := range around(l) {
		w.asksStep(t, y, l, at)
		w.asksStep(t, y, l, at, all(l)...)
		for _, first := range around(l) {
			w.asksStep(t, y, l, at, first)
		}
	}
	for _, x := range w.redexes(w.whole(l)) {
		for _, first := range around(l) {
			for _, second := range around(l) {
				w.asksStep(t, y, l, x.Place, first, second)
			}
		}
	}
}

func (w words) asksAllTogether(t testing.TB, y *system.System, l api.Term) {
	t.Helper()
	w.asksTogether(t, y, l)
	for _, first := range around(l) {
		w.asksTogether(t, y, l, first)
		for _, second := range around(l) {
			w.asksTogether(t, y, l, first, second)
		}
	}
	for _, first := range all(l) {
		for _, second := range all(l) {
			for _, third := range all(l) {
				w.asksTogether(t, y, l, first, second, third)
			}
		}
	}
}

// asksAllThrough asks about all moves at each place, by each of some rules; and, behind those that can be done, about all such once more.
func (w words) asksAllThrough(t testing.TB, y *system.System, l api.Term) {
	t.Helper()
	x := w.whole(l)
	for _, first := range someMoves(x) {
		w.asksThrough(t, y, l, []api.Move{first}, all(l)...)
		next, n, fits := w.contract(x, max(0, x.place(first.Path)))
		if !fits || n != first.Rule {
			w.asksThrough(t, y, l, []api.Move{first, first}, len(l)-1)
			continue
		}
		for _, second := range someMoves(next) {
			w.asksThrough(t, y, l, []api.Move{first, second}, len(l)-1, len(l)/2)
		}
	}
}

func someMoves(x plant) []api.Move {
	moves := []api.Move{{Path: []int{2}}, {Path: []int{0, 0, 0, 0, 0, 0}}, {Path: []int{-1}}}
	for place := range x.size() {
		for rule := range 6 {
			moves = append(moves, api.Move{Path: pathTo(x, place), Rule: rule})
		}
	}
	return moves
}

// P19.1 to P19.3, R2: systems, terms, places and reductions that a seed chooses; and what is none, but for one number.
func TestByChance(t *testing.T) {
	random := rand.New(rand.NewSource(19))
	done, refused := 0, map[string]int{}
	count := func(answer string) {
		if cut := slices.Index([]byte(answer), '@'); cut < 0 {
			done++
		} else {
			refused[answer[cut-3:cut]]++
		}
	}
	for range 1500 {
		y, l := someScene(t, random)
		if len(l) > 100 {
			continue
		}
		w := wordsOf(y)
		x := w.whole(l)
		redexes := w.redexes(x)
		for range 4 {
			at := random.Intn(len(l))
			if len(redexes) > 0 && random.Intn(8) > 0 {
				at = redexes[random.Intn(len(redexes))].Place
			}
			count(w.asksStep(t, y, l, at, somePlaces(random, l)...))
			count(w.asksStep(t, y, l, at, append(somePlaces(random, l), random.Intn(len(l)+2)-1)...))
			var places []int
			for range min(len(redexes), random.Intn(5)) {
				places = append(places, redexes[random.Intn(len(redexes))].Place)
			}
			count(w.asksTogether(t, y, l, places...))
			if random.Intn(2) == 0 {
				places = slices.Insert(places, random.Intn(len(places)+1), random.Intn(len(l)+2)-1)
			}
			count(w.asksTogether(t, y, l, places...))
			moves := w.someReduction(random, x, 1+random.Intn(8))
			count(w.asksThrough(t, y, l, moves, somePlaces(random, l)...))
			if len(moves) > 0 {
				spoilt := &moves[random.Intn(len(moves))]
				if random.Intn(2) == 0 {
					spoilt.Rule = random.Intn(len(w.rules)+2) - 1
				} else {
					spoilt.Path = append(slices.Clone(spoilt.Path), random.Intn(3))
				}
				count(w.asksThrough(t, y, l, moves, somePlaces(random, l)...))
			}
		}
		if t.Failed() {
			t.FailNow()
		}
	}
	if done < 12000 || refused["190"] < 600 || refused["191"] < 600 || refused["181"] < 250 || refused["182"] < 600 {
		t.Errorf("%d done, refused %v", done, refused)
	}
}

// byPaths are the descendants of a place as the chapter's section Types says it, by paths.
func byPaths(t testing.TB, y *system.System, l api.Term, at, place int) []int {
	t.Helper()
	u, n, err := rewrite.Contract(y, l, at)
	if err != nil {
		t.Fatal(told(t, err))
	}
	sides, _ := y.Rules().At(n)
	path := func(x api.Term, place int) []int {
		l, e := term.Path(y.Sig(), x, place)
		if e != api.OK {
			t.Fatalf("no path to %d of %v", place, x)
		}
		return l
	}
	lead := func(path []int) int {
		to, e := term.Place(y.Sig(), u, path...)
		if e != api.OK {
			t.Fatalf("%v leads nowhere in %v", path, u)
		}
		return to
	}
	redex, whole := path(l, at), path(l, place)
	if len(whole) < len(redex) || !slices.Equal(whole[:len(redex)], redex) {
		return []int{lead(whole)}
	}
	q := whole[len(redex):]
	var places []int
	for where, variable := range sides.Left {
		beginning := path(sides.Left, where)
		if variable >= 0 || len(q) < len(beginning) || !slices.Equal(q[:len(beginning)], beginning) {
			continue
		}
		for to, m := range sides.Right {
			if m == variable {
				places = append(places, lead(slices.Concat(redex, path(sides.Right, to), q[len(beginning):])))
			}
		}
	}
	slices.Sort(places)
	return places
}

// P19.1: what the section Types says by paths.
func TestPaths(t *testing.T) {
	random := rand.New(rand.NewSource(23))
	none, one, several := 0, 0, 0
	for range 600 {
		y, l := someScene(t, random)
		if len(l) > 60 {
			continue
		}
		redexes, _ := rewrite.Redexes(y, l)
		for _, x := range redexes {
			for place := range l {
				_, to, err := residual.Step(y, l, x.Place, []int{place})
				if want := byPaths(t, y, l, x.Place, place); err != nil || !slices.Equal(to, want) {
					t.Fatalf("Step of %v at %d for %d: %v, %v, not %v", l, x.Place, place, to, err, want)
				}
				switch len(to) {
				case 0:
					none++
				case 1:
					one++
				default:
					several++
				}
			}
		}
	}
	if none < 2000 || one < 5000 || several < 500 {
		t.Errorf("%d without descendants, %d with one, %d with several", none, one, several)
	}
}

// P19.4: unlike places have no descendant in common, and those of several are those of each; none lies in another one of the same place; what descends from a redex, and is not contracted itself, is a redex of the same rule.
func TestDescendantsOfRedexes(t *testing.T) {
	random := rand.New(rand.NewSource(24))
	followed := 0
	for range 800 {
		y, l := someScene(t, random)
		redexes, _ := rewrite.Redexes(y, l)
		if len(l) > 100 {
			continue
		}
		for _, x := range redexes {
			u, every, err := residual.Step(y, l, x.Place, all(l))
			if err != nil {
				t.Fatalf("Step of %v at %d: %s", l, x.Place, told(t, err))
			}
			var joined []int
			for place := range l {
				v, to, err := residual.Step(y, l, x.Place, []int{place})
				if err != nil || !slices.Equal(u, v) {
					t.Fatalf("Step of %v at %d: %v, then %v, %v", l, x.Place, u, v, err)
				}
				for n, one := range to {
					if slices.Contains(joined, one) {
						t.Fatalf("Step of %v at %d for %d: %v, one of which another place has", l, x.Place, place, to)
					}
					if end, _ := term.End(y.Sig(), u, one); n+1 < len(to) && to[n+1] < end {
						t.Fatalf("Step of %v at %d for %d: %v lie in one another", l, x.Place, place, to)
					}
				}
				joined = append(joined, to...)
			}
			slices.Sort(joined)
			if !slices.Equal(joined, every) {
				t.Fatalf("Step of %v at %d: %v for each, %v for all", l, x.Place, joined, every)
			}
			for _, other := range redexes {
				_, to, _ := residual.Step(y, l, x.Place, []int{other.Place})
				if other == x && len(to) > 0 {
					t.Fatalf("Step of %v at %d: %v descend from it", l, x.Place, to)
				}
				for _, one := range to {
					rule, fits, err := rewrite.At(y, u, one)
					if rule != other.Rule || !fits || err != nil {
						t.Fatalf("%v descends from %v of %v, and in %v there fits %d, %t, %v", one, other, l, u, rule, fits, err)
					}
					followed++
				}
			}
		}
	}
	if followed < 3000 {
		t.Errorf("%d followed", followed)
	}
}

// bothWays contracts one redex, and then all that descends from the other one: the term that comes of it; false: one on the way is too long.
func bothWays(t testing.TB, y *system.System, l api.Term, one, other int) (api.Term, bool) {
	t.Helper()
	u, to, err := residual.Step(y, l, one, []int{other})
	if errors.Is(err, api.ErrRewriteLong) {
		return nil, false
	}
	v, err2 := residual.Together(y, u, to)
	if errors.Is(err2, api.ErrRewriteLong) {
		return nil, false
	}
	if err != nil || err2 != nil {
		t.Fatalf("%v at %d, then for %d: %v, %v", l, one, other, err, err2)
	}
	return v, true
}

// P19.4: contracting a redex and then all that descends from another one, which does not lie in it, and the other way round: the same term.
func TestBothWays(t *testing.T) {
	random := rand.New(rand.NewSource(25))
	apart, within, long := 0, 0, 0
	meet := func(y *system.System, l api.Term) {
		redexes, _ := rewrite.Redexes(y, l)
		for _, x := range redexes {
			end, _ := term.End(y.Sig(), l, x.Place)
			for _, other := range redexes {
				if x.Place <= other.Place && other.Place < end { // it lies in it
					continue
				}
				u, fits := bothWays(t, y, l, x.Place, other.Place)
				v, fitsToo := bothWays(t, y, l, other.Place, x.Place)
				if !fits || !fitsToo {
					long++
					continue
				}
				if !slices.Equal(u, v) {
					t.Fatalf("%v: by %d and %d %v, the other way %v", l, x.Place, other.Place, u, v)
				}
				if other.Place > x.Place {
					apart++
				} else {
					within++
				}
			}
		}
	}
	for range 800 {
		y, l := someScene(t, random)
		if len(l) <= 150 {
			meet(y, l)
		}
	}
	y := full(t)
	for _, text := range []string{"d(d(r))", "k(r,d(r))", "e(k(d(r),r))", "f(s(r),d(r),z)", "f(p(d(r),s(i(r))),e(r),k(r,r))", "add(s(d(r)),e(grow))", "six(d(d(r)),r,i(i(r)),k(loop,r),grow,e(r))"} {
		meet(y, read(t, y, text))
	}
	meet(y, append(api.Term{d, p, r}, numeral(1200)...))
	meet(y, append(api.Term{d, p, grow}, numeral(997)...)) // too long only behind the second step
	if apart < 1000 || within < 1000 || long < 2 {
		t.Errorf("%d apart, %d within, %d too long", apart, within, long)
	}
}

// P19.3: Through agrees with Step, done one by one; and it may be cut anywhere.
func TestThroughIsSteps(t *testing.T) {
	random := rand.New(rand.NewSource(26))
	steps := 0
	for range 600 {
		y, l := someScene(t, random)
		if len(l) > 150 {
			continue
		}
		w := wordsOf(y)
		moves := w.someReduction(random, w.whole(l), 12)
		places := somePlaces(random, l)
		u, to := l, places
		for n, m := range moves {
			first, firstTo, err := residual.Through(y, l, moves[:n], places)
			rest, restTo, err2 := residual.Through(y, first, moves[n:], firstTo)
			whole, wholeTo, err3 := residual.Through(y, l, moves, places)
			if err != nil || err2 != nil || err3 != nil || !slices.Equal(rest, whole) || !slices.Equal(restTo, wholeTo) {
				t.Fatalf("Through of %v by %v for %v, cut at %d: %v %v, not %v %v", l, moves, places, n, rest, restTo, whole, wholeTo)
			}
			if !slices.Equal(first, u) || n > 0 && !slices.Equal(firstTo, to) {
				t.Fatalf("Through of %v by %v for %v: %v %v, not %v %v", l, moves[:n], places, first, firstTo, u, to)
			}
			at, _ := term.Place(y.Sig(), u, m.Path...)
			if u, to, err = residual.Step(y, u, at, to); err != nil {
				t.Fatal(told(t, err))
			}
			steps++
		}
	}
	if steps < 1500 {
		t.Errorf("%d steps", steps)
	}
}

// orders are all orders of a list.
func orders(l []int) [][]int {
	if len(l) == 0 {
		return [][]int{nil}
	}
	var all [][]int
	for n, x := range l {
		for _, rest := range orders(slices.Concat(l[:n], l[n+1:])) {
			all = append(all, append([]int{x}, rest...))
		}
	}
	return all
}

// P19.2: Together comes to what contracting one behind the other comes to, in any order; the others being followed on the way.
func TestTogetherInAnyOrder(t *testing.T) {
	random := rand.New(rand.NewSource(27))
	several := 0
	for range 800 {
		y, l := someScene(t, random)
		redexes, _ := rewrite.Redexes(y, l)
		if len(l) > 150 {
			continue
		}
		var places []int
		for range 2 * len(redexes) {
			one := redexes[random.Intn(len(redexes))].Place
			if _, err := residual.Together(y, l, append(places, one)); err == nil && len(places) < 4 {
				places = append(places, one)
			}
		}
		if len(places) > 1 {
			several++
		}
		want, err := residual.Together(y, l, places)
		if err != nil {
			t.Fatal(told(t, err))
		}
		for _, order := range orders(places) {
			u, rest := l, order
			for len(rest) > 0 {
				var err error
				var next []int
				at := rest[0]
				for _, other := range rest[1:] { // one by one: so they keep their order
					_, to, _ := residual.Step(y, u, at, []int{other})
					next = append(next, to...)
				}
				if u, _, err = rewrite.Contract(y, u, at); err != nil || len(next) != len(rest)-1 {
					t.Fatalf("%v at %d: %v; of %v come %v", l, at, err, rest, next)
				}
				rest = next
			}
			got, err := residual.Together(y, l, order)
			if !slices.Equal(u, want) || !slices.Equal(got, want) || err != nil {
				t.Fatalf("Together of %v for %v: %v, %v; for %v %v; one by one %v", l, order, got, err, places, want, u)
			}
		}
	}
	if several < 250 {
		t.Errorf("%d times several", several)
	}
}

// W1: a machine's Contract is Together of all copies of the node, which do not lie in one another.
func TestMachineAgrees(t *testing.T) {
	random := rand.New(rand.NewSource(28))
	contracted, several := 0, 0
	for range 400 {
		y, l := someScene(t, random)
		h, _ := heap.New(2000)
		a, err := graft.Load(y.Sig(), h, l)
		if err != nil {
			continue
		}
		m, _ := machine.New(y, h)
		m.Start(a)
		for range 60 {
			root, _ := m.Root()
			node, path, _ := m.Focus()
			copies, _ := unravel.Copies(h, root, node)
			x, err := m.Step()
			if err != nil || x.Kind == api.Done || len(l) > 200 {
				break
			}
			if x.Kind != api.Contract {
				continue
			}
			needed, _, err := residual.Through(y, l, []api.Move{{Path: path, Rule: x.Rule}}, nil)
			if err != nil || len(copies) == 1 && !slices.Equal(needed, sound(t, y, l, copies)) {
				t.Fatalf("%v by %v: %v, %v", l, x, needed, err)
			}
			l = sound(t, y, l, copies)
			root, _ = m.Root()
			now, err := unravel.Term(h, root)
			if err != nil || !slices.Equal(now, l) {
				t.Fatalf("%v, %v, not %v", now, err, l)
			}
			contracted++
			if len(copies) > 1 {
				several++
			}
		}
	}
	if contracted < 1500 || several < 100 {
		t.Errorf("%d contracted, %d of them at several places", contracted, several)
	}
}

// sound is Together's answer where no error may be.
func sound(t testing.TB, y *system.System, l api.Term, places []int) api.Term {
	t.Helper()
	u, err := residual.Together(y, l, places)
	if err != nil {
		t.Fatalf("Together of %v for %v: %s", l, places, told(t, err))
	}
	return u
}
