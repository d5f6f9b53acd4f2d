package residual_test

import (
	"errors"
	"math"
	"math/rand"
	"slices"
	"testing"

	"ropewalk/api"
	"ropewalk/residual"
	"ropewalk/system"
)

// refuses asks all calls for the same refusal, whatever places and moves they are handed.
func refuses(t testing.TB, y *system.System, l api.Term, want string) {
	t.Helper()
	for _, places := range [][]int{nil, {0}, {-1}, {0, 0}, {math.MinInt, math.MaxInt}, {len(l)}, {0, len(l) + 1}} {
		for _, at := range []int{math.MinInt, -1, 0, 1, len(l) - 1, len(l), len(l) + 1, math.MaxInt} {
			is(t, "Step", l, []any{at, places}, step(t, y, l, at, places...), "[] [] "+want)
		}
		is(t, "Together", l, places, together(t, y, l, places...), "[] "+want)
		for _, moves := range [][]api.Move{nil, {{}}, {{Path: []int{7}}}, {{Rule: -1}}, make([]api.Move, 1001)} {
			is(t, "Through", l, []any{moves, places}, through(t, y, l, moves, places...), "[] [] "+want)
		}
	}
}

// R1: a nil system: ErrArg ahead of all else.
func TestNilSystem(t *testing.T) {
	for _, l := range []api.Term{nil, {z}, {d, r}, {-1}, {-100}, {lacking}, {s}, chain(2001, s, z)} {
		refuses(t, nil, l, "1@0")
	}
}

// R1: a system without symbols, made by New or by hand: no list is a closed term.
func TestNoSymbols(t *testing.T) {
	for _, y := range []*system.System{system.New(), {}} {
		refuses(t, y, nil, "180@0 23")
		refuses(t, y, api.Term{0}, "180@0 21")
		refuses(t, y, api.Term{-1}, "180@0")
		refuses(t, y, api.Term{-100}, "180@0 22")
	}
}

// P19.1 to P19.3: a list that is no term, and what term.Check tells of it; a term with a variable, of which that tells nothing: both ahead of places and moves.
func TestNoClosedTerm(t *testing.T) {
	y := full(t)
	for _, c := range []struct {
		l    api.Term
		want string
	}{
		{nil, "180@0 23"},
		{api.Term{}, "180@0 23"},
		{api.Term{s}, "180@0 23"},
		{api.Term{z, z}, "180@0 23"},
		{api.Term{r, r}, "180@0 23"},
		{api.Term{d, r, z}, "180@0 23"},
		{api.Term{lacking}, "180@0 21"},
		{api.Term{r, lacking}, "180@0 21"},
		{api.Term{math.MaxInt}, "180@0 21"},
		{api.Term{-100}, "180@0 22"},
		{api.Term{p, r, -100}, "180@0 22"},
		{api.Term{math.MinInt, z}, "180@0 22"},
		{chain(2001, s, z), "180@0 20"},
		{chain(2001, lacking, -100), "180@0 20"},
		{api.Term{-1}, "180@0"},
		{api.Term{d, -1}, "180@0"},
		{api.Term{p, r, -7}, "180@0"},
		{api.Term{p, -99, r}, "180@0"},
		{chain(2000, d, -1), "180@0"},
	} {
		refuses(t, y, c.l, c.want)
	}
}

// R1: a system without rules: nothing can be contracted.
func TestNoRules(t *testing.T) {
	q := asked{t, made(t, declared)}
	for _, text := range []string{"z", "r", "d(r)", "add(add(z,r),loop)"} {
		l := read(t, q.y, text)
		is(t, "Step", l, 0, step(t, q.y, l, 0, 9), "[] [] 182@0")
		q.becomes(text, text)
		q.becomes(text, "182@0", 0)
		q.goes(text, "", "0", text, "0")
		q.goes(text, "*:0", "0", "182@0", "")
	}
}

// R1, R5: a system that was copied, or copied by hand, stands on its own.
func TestCopies(t *testing.T) {
	y := made(t, declared, "d(X) -> p(X,X)")
	copied, byHand := y.Copy(), *y
	rule(t, y, "r -> z")
	for _, other := range []*system.System{copied, &byHand} {
		asked{t, other}.becomes("d(r)", "182@1", 1)
		asked{t, other}.goes("d(r)", "*:0, 0:1", "1", "182@1", "")
		asked{t, y}.becomes("d(r)", "d(z)", 1)
		asked{t, y}.goes("d(r)", "*:0, 0:1", "1", "p(z,r)", "2")
	}
}

// R5: the system is asked anew each time: rules and symbols that came are seen, and nothing else is kept.
func TestWhatComesLater(t *testing.T) {
	q := asked{t, made(t, "con z/0, s/1; fun r/0, h/1")}
	q.becomes("h(r)", "182@0", 0)
	rule(t, q.y, "h(s(X)) -> X")
	q.becomes("h(s(r))", "r", 0)
	q.becomes("h(s(r))", "182@2", 2)
	rule(t, q.y, "r -> s(r)")
	q.becomes("h(s(r))", "h(s(s(r)))", 2)
	q.descend("h(s(r))", 0, "r", "", "", "0")
	refuses(t, q.y, api.Term{3, 4}, "180@0 21")
	if err := q.y.AddSymbols([]api.Symbol{{Name: "late"}}); err != nil {
		t.Fatal(told(t, err))
	}
	q.goes("h(late)", "*:2", "", "182@0", "")
	rule(t, q.y, "h(late) -> late")
	q.goes("h(late)", "*:2", "1", "late", "")
	q.goes("h(s(late))", "*:0", "2", "late", "0")
}

// odd is what goes into the calls: terms, places and moves of all kinds, many of which are refused.
type odd struct {
	l      api.Term
	at     int
	places []int
	moves  []api.Move
}

func odds(t testing.TB, y *system.System) []odd {
	t.Helper()
	l := []odd{
		{nil, 0, nil, nil},
		{api.Term{s}, 0, []int{0}, []api.Move{{}}},
		{api.Term{lacking}, 0, []int{0}, nil},
		{api.Term{d, -1}, 0, []int{0}, []api.Move{{}}},
		{chain(2001, s, z), 0, nil, nil},
		{chain(2000, s, grow), 1999, []int{1999}, []api.Move{{Path: make([]int, 1999), Rule: 11}}},
		{chain(2000, d, z), 0, []int{0}, []api.Move{{}}},
		{api.Term{s, loop}, 1, []int{1}, loops(1000)},
		{api.Term{s, loop}, 1, []int{1}, loops(1001)},
		{api.Term{d, r}, 2, []int{2}, []api.Move{{Path: []int{1}}}},
		{api.Term{d, r}, math.MinInt, []int{0, math.MaxInt}, []api.Move{{Rule: math.MinInt}}},
	}
	for _, text := range []string{"r", "p(r,d(r))", "d(d(add(z,r)))", "k(s(r),loop)", "six(r,d(z),i(z),r,grow,e(r))", "i(i(r))"} {
		x := read(t, y, text)
		w := wordsOf(y)
		moves := w.someReduction(rand.New(rand.NewSource(7)), w.whole(x), 4)
		for _, places := range [][]int{nil, {0}, {len(x) - 1}, {1, 1}, {2, 1}, {1, 2, 4}, {len(x)}, {0, 1, -1}, {5, 4, 3, 2, 1, 0}} {
			for at := range min(len(x), 3) {
				l = append(l, odd{x, at, places, moves}, odd{x, at, places, append(moves, api.Move{Path: []int{at}, Rule: at})})
			}
		}
	}
	return l
}

// calls are all calls for what goes in: what they tell.
func calls(t testing.TB, y *system.System, c odd) []string {
	t.Helper()
	return []string{step(t, y, c.l, c.at, c.places...), together(t, y, c.l, c.places...), through(t, y, c.l, c.moves, c.places...)}
}

// R3: no call changes the system.
func TestSystemStays(t *testing.T) {
	random := rand.New(rand.NewSource(22))
	y := full(t)
	before := everything(y)
	for _, c := range odds(t, y) {
		calls(t, y, c)
	}
	if everything(y) != before {
		t.Errorf("%s, then %s", before, everything(y))
	}
	for range 200 {
		y, l := someScene(t, random)
		before := everything(y)
		w := wordsOf(y)
		for range 5 {
			calls(t, y, odd{l, random.Intn(len(l)), somePlaces(random, l), w.someReduction(random, w.whole(l), 5)})
		}
		if everything(y) != before {
			t.Fatalf("%s, then %s", before, everything(y))
		}
	}
}

// R5: the same answers each time, in whatever order one asks, whatever spare room a list has.
func TestSameEachTime(t *testing.T) {
	y, other := full(t), full(t)
	var first [][]string
	for _, c := range odds(t, y) {
		first = append(first, calls(t, y, c))
	}
	for range 2 {
		for n, c := range slices.Backward(odds(t, y)) {
			c.l = append(slices.Clone(c.l), 1, 2, 3)[:len(c.l)]
			c.places = append(slices.Clone(c.places), 1, 2, 3)[:len(c.places)]
			c.moves = append(slices.Clone(c.moves), api.Move{Rule: 1})[:len(c.moves)]
			for _, y := range []*system.System{y, other} {
				if got := calls(t, y, c); !slices.Equal(got, first[n]) {
					t.Fatalf("of %.80v: %.300v, then %.300v", c, first[n], got)
				}
			}
		}
	}
}

// roomy is a list with spare room in which something stands: that list, and all of it.
func roomy[S ~[]E, E any](l S, spare ...E) (S, S) {
	whole := slices.Concat(l, spare)
	return whole[:len(l)], whole
}

// R4: what is handed in stays, its spare room included, whether it is refused or not.
func TestGivenStays(t *testing.T) {
	y := full(t)
	for _, c := range odds(t, y) {
		l, wholeTerm := roomy(c.l, 55, 56, 57, 58, 59, 60)
		places, wholePlaces := roomy(c.places, 7, 0, 7, 3, 3)
		var moves, wholeMoves []api.Move
		for _, m := range c.moves {
			path, _ := roomy(m.Path, 5, 5)
			wholeMoves = append(wholeMoves, api.Move{Path: path, Rule: m.Rule})
		}
		wholeMoves = append(wholeMoves, api.Move{Path: []int{3}, Rule: 3})
		moves = wholeMoves[:len(c.moves)]
		termBefore, placesBefore := slices.Clone(wholeTerm), slices.Clone(wholePlaces)
		calls(t, y, odd{l, c.at, places, moves})
		if !slices.Equal(wholeTerm, termBefore) || !slices.Equal(wholePlaces, placesBefore) {
			t.Errorf("%.80v, then %.80v; %v, then %v", termBefore, wholeTerm, placesBefore, wholePlaces)
		}
		for n, m := range c.moves {
			path := moves[n].Path
			if moves[n].Rule != m.Rule || !slices.Equal(path[:len(path)+2], append(slices.Clone(m.Path), 5, 5)) {
				t.Errorf("the move %d of %.80v became %.80v", n, m, moves[n])
			}
		}
		if last := wholeMoves[len(c.moves)]; last.Rule != 3 || !slices.Equal(last.Path, []int{3}) {
			t.Errorf("behind the moves stands %v", last)
		}
	}
}

// spoil fills a list, its spare room too, with what stands nowhere else.
func spoil(l []int) {
	l = l[:cap(l)]
	for n := range l {
		l[n] = -7777
	}
}

// R4: what is answered is new memory, spare room too: it shares none with what was handed in, with another list of the answer, with another answer, nor with the system.
func TestAnswersAreNew(t *testing.T) {
	y := full(t)
	before := everything(y)
	for _, c := range odds(t, y) {
		asks := []func() (api.Term, []int, error){
			func() (api.Term, []int, error) { return residual.Step(y, c.l, c.at, c.places) },
			func() (api.Term, []int, error) { u, err := residual.Together(y, c.l, c.places); return u, nil, err },
			func() (api.Term, []int, error) { return residual.Through(y, c.l, c.moves, c.places) },
			func() (api.Term, []int, error) { return residual.Through(y, c.l, nil, c.places) },
		}
		termBefore, placesBefore := slices.Clone(c.l), slices.Clone(c.places)
		for n, ask := range asks {
			one, oneTo, err := ask()
			other, otherTo, _ := ask()
			third, thirdTo := slices.Clone(other), slices.Clone(otherTo)
			spoil(one)
			if len(one) > 0 && slices.Contains(oneTo, -7777) {
				t.Errorf("call %d of %.80v: two lists of one answer share memory", n, c)
			}
			spoil(oneTo)
			if err != nil && len(one)+len(oneTo) > 0 {
				t.Errorf("call %d of %.80v: %v, %v beside %v", n, c, one, oneTo, err)
			}
			if !slices.Equal(c.l, termBefore) || !slices.Equal(c.places, placesBefore) || everything(y) != before {
				t.Fatalf("call %d of %.80v: its answer shares memory with what was handed in", n, c)
			}
			again, againTo, _ := ask()
			if !slices.Equal(other, third) || !slices.Equal(otherTo, thirdTo) || !slices.Equal(again, third) || !slices.Equal(againTo, thirdTo) {
				t.Errorf("call %d of %.80v: two answers share memory", n, c)
			}
		}
	}
}

// R4: what was handed in is not kept, and what was answered does not hang on it, nor on what comes later.
func TestNothingIsKept(t *testing.T) {
	y := full(t)
	l, places, moves := read(t, y, "p(d(r),k(s(r),z))"), []int{4, 2, 0}, movesOf(t, "0:0, 1:4")
	u, to, _ := residual.Step(y, l, 1, places)
	v, _ := residual.Together(y, l, []int{3, 1})
	w, tow, _ := residual.Through(y, l, moves, places)
	x, tox, _ := residual.Through(y, l, nil, places)
	wantX, wantToX := slices.Clone(l), []int{0, 2, 4}
	spoil(l)
	spoil(places)
	spoil(moves[0].Path)
	rule(t, y, "g(X,X1,X2,X3,X4,X5) -> X")
	calls(t, y, odd{read(t, y, "p(g(r,r,r,r,r,r),r)"), 1, []int{2}, movesOf(t, "0:12")})
	is(t, "Step", l, places, both(u, to), both(read(t, y, "p(p(r,r),k(s(r),z))"), []int{0, 2, 3, 5}))
	is(t, "Together", l, places, numbers(v), numbers(read(t, y, "p(p(r,r),s(r))")))
	is(t, "Through", l, places, both(w, tow), both(read(t, y, "p(p(r,r),s(r))"), []int{0, 2, 3, 4}))
	is(t, "Through", l, places, both(x, tox), both(wantX, wantToX))
}

// Errors: numbers are the document's; each answer is a Fault of its own, found by errors.Is and errors.As, with its At and its Why.
func TestErrors(t *testing.T) {
	if api.OK != 0 || api.ErrArg != 1 || api.ErrResidualPlace != 190 || api.ErrResidualApart != 191 {
		t.Error("OK, ErrArg, ErrResidualPlace or ErrResidualApart")
	}
	if api.ErrRewriteTerm != 180 || api.ErrRewritePlace != 181 || api.ErrRewriteRedex != 182 || api.ErrRewriteLong != 183 {
		t.Error("ErrRewriteTerm, ErrRewritePlace, ErrRewriteRedex or ErrRewriteLong")
	}
	if api.MaxTerm != 2000 || api.MaxMoves != 1000 {
		t.Error("limits")
	}
	y := full(t)
	ofStep := func(y *system.System, l api.Term, at int, places ...int) func() error {
		return func() error { _, _, err := residual.Step(y, l, at, places); return err }
	}
	ofTogether := func(y *system.System, l api.Term, places ...int) func() error {
		return func() error { _, err := residual.Together(y, l, places); return err }
	}
	ofThrough := func(y *system.System, l api.Term, moves []api.Move, places ...int) func() error {
		return func() error { _, _, err := residual.Through(y, l, moves, places); return err }
	}
	for _, c := range []struct {
		err   func() error
		at    int
		why   error
		bears []api.Errno
	}{
		{ofStep(nil, api.Term{z}, 0), 0, nil, []api.Errno{1}},
		{ofTogether(nil, api.Term{z}), 0, nil, []api.Errno{1}},
		{ofThrough(nil, api.Term{z}, nil), 0, nil, []api.Errno{1}},
		{ofStep(y, api.Term{d}, 0), 0, api.Errno(23), []api.Errno{180, 23}},
		{ofTogether(y, api.Term{lacking}), 0, api.Errno(21), []api.Errno{180, 21}},
		{ofThrough(y, api.Term{-100}, nil), 0, api.Errno(22), []api.Errno{180, 22}},
		{ofStep(y, chain(2001, s, z), 0), 0, api.Errno(20), []api.Errno{180, 20}},
		{ofStep(y, api.Term{d, -1}, 0), 0, nil, []api.Errno{180}},
		{ofTogether(y, api.Term{d, -1}), 0, nil, []api.Errno{180}},
		{ofThrough(y, api.Term{d, -1}, nil), 0, nil, []api.Errno{180}},
		{ofStep(y, api.Term{d, r}, 2), 0, nil, []api.Errno{181}},
		{ofStep(y, api.Term{d, z}, 1), 1, nil, []api.Errno{182}},
		{ofStep(y, chain(2000, s, grow), 1999), 1999, nil, []api.Errno{183}},
		{ofStep(y, api.Term{d, r}, 0, 1, 2), 1, nil, []api.Errno{190}},
		{ofTogether(y, api.Term{d, r}, 1, -1), 1, nil, []api.Errno{190}},
		{ofTogether(y, api.Term{p, r, r}, 2, 1, 2), 2, nil, []api.Errno{191}},
		{ofTogether(y, api.Term{p, r, z}, 1, 2), 2, nil, []api.Errno{182}},
		{ofTogether(y, chain(2000, s, grow), 1999), 0, nil, []api.Errno{183}},
		{ofTogether(y, append(api.Term{s, d}, numeral(1500)...), 1), 0, nil, []api.Errno{183}},
		{ofThrough(y, api.Term{d, r}, nil, 1, 0, 2), 2, nil, []api.Errno{190}},
		{ofThrough(y, api.Term{d, r}, make([]api.Move, 1001)), 0, nil, []api.Errno{1}},
		{ofThrough(y, api.Term{d, r}, movesOf(t, "*:0, 0:1, 2:1")), 2, nil, []api.Errno{181}},
		{ofThrough(y, api.Term{d, r}, movesOf(t, "*:0, 0:1, 0:1")), 2, nil, []api.Errno{182}},
		{ofThrough(y, api.Term{d, r}, movesOf(t, "*:0, 0:2")), 1, nil, []api.Errno{182}},
		{ofThrough(y, append(api.Term{d}, chain(998, s, grow)...), movesOf(t, "*:0, *:0")), 1, nil, []api.Errno{182}},
		{ofThrough(y, append(api.Term{d, d}, numeral(700)...), movesOf(t, "0:0, *:0")), 1, nil, []api.Errno{183}},
	} {
		one, other := c.err(), c.err()
		for number := range api.Errno(240) {
			if errors.Is(one, number) != slices.Contains(c.bears, number) {
				t.Errorf("%s: errors.Is of %d", told(t, one), number)
			}
		}
		var x, again *api.Fault
		if !errors.As(one, &x) || !errors.As(other, &again) {
			t.Fatalf("%v, %v: no Faults of %v", one, other, c.bears)
		}
		if x == again || *x != *again || x.Code != c.bears[0] || x.At != c.at || x.Why != c.why {
			t.Errorf("%v, %v: not two Faults of %d at %d", x, again, c.bears[0], c.at)
		}
	}
	for _, c := range []func() error{ofStep(y, api.Term{r}, 0, 0), ofTogether(y, api.Term{r}, 0), ofTogether(y, api.Term{r}), ofThrough(y, api.Term{r}, nil, 0), ofThrough(y, api.Term{r}, movesOf(t, "*:1"), 0)} {
		if err := c(); err != nil {
			t.Errorf("%v of what is right", err)
		}
	}
}
