package rewrite_test

import (
	"errors"
	"math"
	"math/rand"
	"slices"
	"strconv"
	"testing"

	"ropewalk/api"
	"ropewalk/rewrite"
	"ropewalk/system"
)

// R1: a nil system: ErrArg ahead of all else.
func TestNilSystem(t *testing.T) {
	for _, l := range []api.Term{nil, {z}, {d, r}, {-1}, {-100}, {lacking}, {s}, chain(2001, s, z)} {
		refuses(t, nil, l, "1@0")
	}
}

// R1: a system without symbols, made by New or by hand: no list is a closed term.
func TestNoSymbols(t *testing.T) {
	for _, y := range []*system.System{system.New(), {}} {
		refuses(t, y, nil, "180@0 23")
		refuses(t, y, api.Term{0}, "180@0 21")
		refuses(t, y, api.Term{-1}, "180@0")
		refuses(t, y, api.Term{-100}, "180@0 22")
	}
}

// P18.2: a system without rules: all is in normal form.
func TestNoRules(t *testing.T) {
	q := asked{t, made(t, declared)}
	for _, text := range []string{"z", "r", "d(r)", "add(add(z,r),loop)", "g(r,r,r,r,r,r)"} {
		q.redexes(text, "", "", "")
		for place := range read(t, q.y, text) {
			q.at(text, place, "none")
		}
		q.stays(text, 0, "182@0")
	}
}

// R1, R5: a system that was copied, or copied by hand, stands on its own.
func TestCopies(t *testing.T) {
	y := made(t, declared, "d(X) -> p(X,X)")
	copied, byHand := y.Copy(), *y
	rule(t, y, "r -> z")
	q := asked{t, y}
	for _, other := range []*system.System{copied, &byHand} {
		asked{t, other}.redexes("d(r)", "0:0", "0:0", "0:0")
		asked{t, other}.stays("d(r)", 1, "182@1")
		q.redexes("d(r)", "0:0 1:1", "0:0", "1:1")
		q.becomes("d(r)", 1, "d(z)", 1)
	}
}

// R5: the system is asked anew each time: rules and symbols that came are seen, and nothing else is kept.
func TestWhatComesLater(t *testing.T) {
	q := asked{t, made(t, "con z/0, s/1; fun r/0, h/1")}
	q.redexes("h(r)", "", "", "")
	rule(t, q.y, "h(s(X)) -> X")
	q.redexes("h(r)", "", "", "")
	q.redexes("h(s(r))", "0:0", "0:0", "0:0")
	rule(t, q.y, "r -> s(r)")
	q.redexes("h(r)", "1:1", "1:1", "1:1")
	q.redexes("h(s(r))", "0:0 2:1", "0:0", "2:1")
	refuses(t, q.y, api.Term{3, 4}, "180@0 21")
	if err := q.y.AddSymbols([]api.Symbol{{Name: "late"}}); err != nil {
		t.Fatal(told(t, err))
	}
	q.redexes("h(late)", "", "", "")
	rule(t, q.y, "h(late) -> late")
	q.becomes("h(late)", 0, "late", 2)
	q.becomes("h(s(r))", 0, "r", 0)
}

// calls are all calls for a list, at some places: what they tell.
func calls(t testing.TB, y *system.System, l api.Term, places ...int) []string {
	t.Helper()
	told := []string{redexes(t, y, l), normal(t, y, l), outer(t, y, l), inner(t, y, l)}
	for _, place := range places {
		told = append(told, at(t, y, l, place), contract(t, y, l, place))
	}
	return told
}

// odd are lists and places of all kinds: terms, and what is refused.
func odd() []api.Term {
	return []api.Term{
		nil, {z}, {r}, {d, add, z, r}, {k, p, r, z, d, r}, {f, p, r, s, z, r, z}, {g, d, d, z, r, r, r, r, r}, {loop}, {e, e, grow},
		{-1}, {d, -1}, {s}, {lacking}, {-100}, {math.MinInt}, {math.MaxInt}, {z, z}, chain(1999, s, grow), chain(2000, s, grow), chain(2001, s, z),
	}
}

// R3, P18.1 to P18.4: no call changes the system.
func TestSystemStays(t *testing.T) {
	random := rand.New(rand.NewSource(22))
	y := full(t)
	before := everything(y)
	for _, l := range odd() {
		calls(t, y, l, around(l[:min(len(l), 12)])...)
	}
	calls(t, y, chain(2000, s, grow), 1999)
	if everything(y) != before {
		t.Errorf("%s, then %s", before, everything(y))
	}
	for range 200 {
		y, l := someScene(t, random)
		before := everything(y)
		calls(t, y, l, around(l[:min(len(l), 20)])...)
		if everything(y) != before {
			t.Fatalf("%s, then %s", before, everything(y))
		}
	}
}

// R5: the same answers each time, in whatever order one asks, whatever spare room a list has.
func TestSameEachTime(t *testing.T) {
	y, other := full(t), full(t)
	var first [][]string
	for _, l := range odd() {
		first = append(first, calls(t, y, l, around(l[:min(len(l), 12)])...))
	}
	for range 3 {
		for n, l := range slices.Backward(odd()) {
			roomy := append(slices.Clone(l), 1, 2, 3)[:len(l)]
			for _, y := range []*system.System{y, other} {
				if got := calls(t, y, roomy, around(l[:min(len(l), 12)])...); !slices.Equal(got, first[n]) {
					t.Fatalf("of %.80v: %.300v, then %.300v", l, first[n], got)
				}
			}
		}
	}
}

// R4: what is handed in stays, its spare room included, whether it is refused or not.
func TestTermStays(t *testing.T) {
	y := full(t)
	for _, l := range odd() {
		room := append(slices.Clone(l), 55, 56, 57, 58, 59, 60, 61, 62, 63, 64)
		before := slices.Clone(room)
		calls(t, y, room[:len(l)], around(l[:min(len(l), 12)])...)
		if !slices.Equal(room, before) {
			t.Errorf("%.80v, then %.80v", before, room)
		}
	}
}

// spoil fills a list, its spare room too, with what stands nowhere else.
func spoil(l []int) {
	l = l[:cap(l)]
	for n := range l {
		l[n] = -7777
	}
}

// R4: what is answered is new memory, spare room too: it shares none with what was handed in, with another answer, nor with the system.
func TestAnswersAreNew(t *testing.T) {
	y := full(t)
	before := everything(y)
	for _, text := range []string{"r", "grow", "i(s(z))", "d(r)", "k(p(z,z),r)", "add(z,p(r,r))", "e(z)", "p(grow,r)", "p(r,grow)", "s(i(d(z)))"} {
		given := append(read(t, y, text), 55, 56, 57)
		l := given[:len(given)-3]
		room := slices.Clone(given)
		for place := range l {
			one, rule, err := rewrite.Contract(y, l, place)
			if err != nil {
				continue
			}
			other, _, _ := rewrite.Contract(y, l, place)
			want := slices.Clone(other)
			spoil(one)
			if !slices.Equal(other, want) || !slices.Equal(given, room) || everything(y) != before {
				t.Errorf("Contract of %s, %d: its answer shares memory", text, place)
			}
			spoil(other)
			is(t, "Contract", l, contract(t, y, l, place), numbers(want)+" "+strconv.Itoa(rule))
		}
		one, _ := rewrite.Redexes(y, l)
		other, _ := rewrite.Redexes(y, l)
		want := shown(other...)
		for n := range one[:cap(one)] {
			one[:cap(one)][n] = api.Redex{Place: 7777, Rule: 7777}
		}
		if shown(other...) != want || redexes(t, y, l) != want {
			t.Errorf("Redexes of %s: two answers share memory", text)
		}
	}
}

// R4: what was handed in is not kept, and what was answered does not hang on it, nor on what comes later.
func TestNothingIsKept(t *testing.T) {
	y := full(t)
	l := read(t, y, "p(d(r),k(s(r),z))")
	u, _, _ := rewrite.Contract(y, l, 1)
	v, _, _ := rewrite.Contract(y, l, 3)
	all, _ := rewrite.Redexes(y, l)
	spoil(l)
	calls(t, y, read(t, y, "p(d(r),k(r,z))"), 1, 2, 3, 4)
	rule(t, y, "g(X,X1,X2,X3,X4,X5) -> X")
	calls(t, y, read(t, y, "g(r,r,r,r,r,r)"), 0, 1)
	if numbers(u) != numbers(read(t, y, "p(p(r,r),k(s(r),z))")) || numbers(v) != numbers(read(t, y, "p(d(r),s(r))")) || shown(all...) != "1:0 2:1 3:4 5:1" {
		t.Errorf("%v, %v, %s", u, v, shown(all...))
	}
}

// Errors: numbers are the document's; each answer is a Fault of its own, found by errors.Is and errors.As.
func TestErrors(t *testing.T) {
	if api.OK != 0 || api.ErrArg != 1 || api.ErrRewriteTerm != 180 || api.ErrRewritePlace != 181 || api.ErrRewriteRedex != 182 || api.ErrRewriteLong != 183 {
		t.Error("OK, ErrArg, ErrRewriteTerm, ErrRewritePlace, ErrRewriteRedex or ErrRewriteLong")
	}
	if api.MaxTerm != 2000 || api.MaxRules != 100 || api.MaxSide != 200 || api.MaxVariables != 99 {
		t.Error("limits")
	}
	y := full(t)
	every := func(y *system.System, l api.Term, place int) []error {
		_, _, at := rewrite.At(y, l, place)
		_, _, contract := rewrite.Contract(y, l, place)
		_, redexes := rewrite.Redexes(y, l)
		_, normal := rewrite.Normal(y, l)
		_, _, outer := rewrite.Outer(y, l)
		_, _, inner := rewrite.Inner(y, l)
		return []error{at, contract, redexes, normal, outer, inner}
	}
	for _, c := range []struct {
		y     *system.System
		l     api.Term
		place int
		faults,
		at int
		why   error
		bears []api.Errno
	}{
		{nil, api.Term{z}, 0, 6, 0, nil, []api.Errno{1}},
		{y, api.Term{d, -1}, 0, 6, 0, nil, []api.Errno{180}},
		{y, api.Term{d}, 0, 6, 0, api.Errno(23), []api.Errno{180, 23}},
		{y, api.Term{lacking}, 7, 6, 0, api.Errno(21), []api.Errno{180, 21}},
		{y, api.Term{-100}, -1, 6, 0, api.Errno(22), []api.Errno{180, 22}},
		{y, chain(2001, s, z), 0, 6, 0, api.Errno(20), []api.Errno{180, 20}},
		{y, api.Term{d, r}, 2, 2, 0, nil, []api.Errno{181}},
		{y, api.Term{d, r}, -1, 2, 0, nil, []api.Errno{181}},
		{y, api.Term{d, z}, 1, 1, 1, nil, []api.Errno{182}},
		{y, chain(2000, s, grow), 1999, 1, 1999, nil, []api.Errno{183}},
		{y, chain(2000, d, z), 0, 1, 0, nil, []api.Errno{183}},
	} {
		one, other := every(c.y, c.l, c.place), every(c.y, c.l, c.place)
		count := 0
		for n, err := range one {
			if err == nil {
				continue
			}
			count++
			for number := range api.Errno(240) {
				if errors.Is(err, number) != slices.Contains(c.bears, number) {
					t.Errorf("%s: errors.Is of %d", told(t, err), number)
				}
			}
			var x, again *api.Fault
			if !errors.As(err, &x) || !errors.As(other[n], &again) {
				t.Fatalf("%v, %v: no Faults", err, other[n])
			}
			if x == again || *x != *again || x.Code != c.bears[0] || x.At != c.at || x.Why != c.why {
				t.Errorf("%v, %v: not two Faults of %d", x, again, c.bears[0])
			}
		}
		if count != c.faults {
			t.Errorf("%v: %d of the calls refuse %.80v, not %d", c.bears, count, c.l, c.faults)
		}
	}
	for _, err := range every(y, api.Term{r}, 0) {
		if err != nil {
			t.Errorf("%v of what is right", err)
		}
	}
}
