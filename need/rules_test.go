package need_test

import (
	"errors"
	"math"
	"math/rand"
	"slices"
	"strings"
	"testing"

	"ropewalk/api"
	"ropewalk/need"
	"ropewalk/system"
)

// R1: a nil system: ErrArg ahead of all else.
func TestNilSystem(t *testing.T) {
	for _, l := range []api.Term{nil, {z}, {d, r}, {-1}, {-100}, {lacking}, {s}, chain(2001, s, z)} {
		refuses(t, nil, l, "1@0")
	}
}

// R1: a system without symbols, made by New or by hand: no list is a closed term.
func TestNoSymbols(t *testing.T) {
	for _, y := range []*system.System{system.New(), {}} {
		refuses(t, y, nil, "200@0 23")
		refuses(t, y, api.Term{0}, "200@0 21")
		refuses(t, y, api.Term{-1}, "200@0")
		refuses(t, y, api.Term{-100}, "200@0 22")
	}
}

// P20.1 to P20.3: a system without rules: all is rigid, and in normal form.
func TestNoRules(t *testing.T) {
	q := asked{t, made(t, declared)}
	for _, text := range []string{"z", "r", "d(r)", "add(add(z,r),loop)", "g(r,r,r,r,r,r)"} {
		q.finds(text, "none")
		q.ends(text, 0, text)
		q.rigid(text, strings.Repeat("t", len(read(t, q.y, text))))
	}
}

// P20.1 to P20.3: a system without constructors.
func TestNoConstructors(t *testing.T) {
	q := asked{t, made(t, "fun r/0, h/1, n/2", "h(X) -> n(X,r); r -> r")}
	q.rigid("n(r,h(r))", "tfff")
	q.finds("n(n(n(h(r),r),r),r)", "3:0")
	q.finds("n(n(n(r,r),r),r)", "3:1")
	q.becomes("n(h(r),r)", 1, "n(n(r,r),r)")
	q.becomes("n(h(r),r)", 7, "n(n(r,r),r)")
}

// R1, R5: a system that was copied, or copied by hand, stands on its own.
func TestCopies(t *testing.T) {
	y := made(t, declared, "d(X) -> p(X,X)")
	copied, byHand := y.Copy(), *y
	rule(t, y, "r -> z")
	for _, other := range []*system.System{copied, &byHand} {
		q := asked{t, other}
		q.rigid("r", "t")
		q.finds("p(r,d(r))", "2:0")
		q.ends("p(r,d(r))", 1, "p(r,p(r,r))")
		q = asked{t, y}
		q.rigid("r", "f")
		q.finds("p(r,d(r))", "1:1")
		q.ends("p(r,d(r))", 4, "p(z,p(z,z))")
	}
}

// R5: the system is asked anew each time: rules and symbols that came are seen, and nothing else is kept.
func TestWhatComesLater(t *testing.T) {
	q := asked{t, made(t, "con z/0, s/1; fun r/0, h/1")}
	q.rigid("h(r)", "tt")
	q.ends("h(r)", 0, "h(r)")
	rule(t, q.y, "h(s(X)) -> X")
	q.rigid("h(r)", "tt")
	q.finds("h(r)", "none")
	q.rigid("h(s(r))", "ftt")
	q.ends("h(s(r))", 1, "r")
	rule(t, q.y, "r -> s(r)")
	q.rigid("h(r)", "ff")
	q.finds("h(r)", "1:1")
	q.becomes("h(r)", 2, "r")
	refuses(t, q.y, api.Term{3, 4}, "200@0 21")
	if err := q.y.AddSymbols([]api.Symbol{{Name: "late"}}); err != nil {
		t.Fatal(told(t, err))
	}
	q.rigid("h(late)", "tt")
	q.finds("h(h(late))", "none")
	rule(t, q.y, "h(late) -> late")
	q.rigid("h(late)", "ft")
	q.finds("h(h(late))", "1:2")
	q.ends("h(h(late))", 2, "late")
}

// odd are lists of all kinds: terms, and what is refused.
func odd() []api.Term {
	return []api.Term{
		nil, {z}, {r}, {d, add, z, r}, {k, p, r, z, d, r}, {f, p, r, s, z, r, z}, {add, f, z, s, z, r, d, r}, {g, d, d, z, r, r, r, r, r}, {loop}, {e, e, grow}, {p, z, s, z},
		{-1}, {d, -1}, {s}, {lacking}, {-100}, {math.MinInt}, {math.MaxInt}, {z, z}, chain(1999, s, grow), chain(2000, s, grow), chain(2001, s, z), sum(20),
	}
}

// calls are all calls for a list, at places that are its and such as are not, by some numbers: what they tell.
func calls(t testing.TB, y *system.System, l api.Term) []string {
	t.Helper()
	told := []string{find(t, y, l)}
	for _, place := range around(l[:min(len(l), 12)]) {
		told = append(told, rigid(t, y, l, place))
	}
	for _, most := range []int{-1, 0, 1, 2, 3, 30} {
		told = append(told, reduce(t, y, l, most))
	}
	return told
}

// R3: no call changes the system.
func TestSystemStays(t *testing.T) {
	random := rand.New(rand.NewSource(22))
	y := full(t)
	before := everything(y)
	for _, l := range odd() {
		calls(t, y, l)
	}
	reduce(t, y, api.Term{loop}, 1000)
	if everything(y) != before {
		t.Errorf("%s, then %s", before, everything(y))
	}
	for range 200 {
		y, l := someScene(t, random)
		before := everything(y)
		calls(t, y, l)
		if everything(y) != before {
			t.Fatalf("%s, then %s", before, everything(y))
		}
	}
}

// R5: the same answers each time, in whatever order one asks, whatever spare room a list has.
func TestSameEachTime(t *testing.T) {
	y, other := full(t), full(t)
	var first [][]string
	for _, l := range odd() {
		first = append(first, calls(t, y, l))
	}
	for range 3 {
		for n, l := range slices.Backward(odd()) {
			roomy := append(slices.Clone(l), 1, 2, 3)[:len(l)]
			for _, y := range []*system.System{y, other} {
				if got := calls(t, y, roomy); !slices.Equal(got, first[n]) {
					t.Fatalf("of %.80v: %.300v, then %.300v", l, first[n], got)
				}
			}
		}
	}
}

// R4: what is handed in stays, its spare room included, whether it is refused or not.
func TestTermStays(t *testing.T) {
	y := full(t)
	for _, l := range odd() {
		room := append(slices.Clone(l), 55, 56, 57, 58, 59, 60, 61, 62, 63, 64)
		before := slices.Clone(room)
		calls(t, y, room[:len(l)])
		if !slices.Equal(room, before) {
			t.Errorf("%.80v, then %.80v", before, room)
		}
	}
}

// spoil fills a list, its spare room too, with what stands nowhere else.
func spoil(l []int) {
	l = l[:cap(l)]
	for n := range l {
		l[n] = -7777
	}
}

// R4: what is answered is new memory, spare room too: it shares none with what was handed in, with another answer, nor with the system; where nothing was contracted neither.
func TestAnswersAreNew(t *testing.T) {
	y := full(t)
	before := everything(y)
	for _, text := range []string{"z", "r", "grow", "i(s(z))", "d(r)", "k(p(z,z),r)", "add(z,p(r,r))", "p(z,s(z))", "add(p(z,z),z)", "loop", "s(i(d(z)))"} {
		given := append(read(t, y, text), 55, 56, 57)
		l := given[:len(given)-3]
		room := slices.Clone(given)
		for _, most := range []int{-1, 0, 1, 2, 9} {
			one, _, _, err := need.Reduce(y, l, most)
			other, n, isNormal, _ := need.Reduce(y, l, most)
			if err != nil {
				t.Fatal(told(t, err))
			}
			want := slices.Clone(other)
			spoil(one)
			if !slices.Equal(other, want) || !slices.Equal(given, room) || everything(y) != before {
				t.Errorf("Reduce of %s by %d: its answer shares memory", text, most)
			}
			spoil(other)
			is(t, "Reduce", l, most, reduce(t, y, l, most), reduced(want, n, isNormal))
		}
	}
}

// R4: what was handed in is not kept, and what was answered does not hang on it, nor on what comes later.
func TestNothingIsKept(t *testing.T) {
	y := full(t)
	l := read(t, y, "p(d(r),k(s(r),z))")
	none, _, _, _ := need.Reduce(y, l, 0)
	one, _, _, _ := need.Reduce(y, l, 1)
	all, _, _, _ := need.Reduce(y, l, 100)
	x, _, _ := need.Find(y, l)
	spoil(l)
	calls(t, y, read(t, y, "p(d(r),k(r,z))"))
	rule(t, y, "g(X,X1,X2,X3,X4,X5) -> X")
	calls(t, y, read(t, y, "p(g(r,r,r,r,r,r),z)"))
	for got, want := range map[string]string{
		numbers(none): "p(d(r),k(s(r),z))",
		numbers(one):  "p(p(r,r),k(s(r),z))",
		numbers(all):  "p(p(z,z),s(z))",
	} {
		if got != numbers(read(t, y, want)) {
			t.Errorf("%s is not %s", got, want)
		}
	}
	if shown(x) != "1:0" {
		t.Error(shown(x))
	}
}

// Errors: numbers are the document's; each answer is a Fault of its own, found by errors.Is and errors.As.
func TestErrors(t *testing.T) {
	if api.OK != 0 || api.ErrArg != 1 || api.ErrNeedTerm != 200 || api.ErrRewritePlace != 181 || api.ErrRewriteLong != 183 {
		t.Error("OK, ErrArg, ErrNeedTerm, ErrRewritePlace or ErrRewriteLong")
	}
	if api.MaxTerm != 2000 || api.MaxMoves != 1000 || api.MaxVariables != 99 {
		t.Error("limits")
	}
	y := full(t)
	every := func(y *system.System, l api.Term, n int) []error {
		_, rigid := need.Rigid(y, l, n)
		_, _, find := need.Find(y, l)
		_, _, _, reduce := need.Reduce(y, l, n)
		return []error{rigid, find, reduce}
	}
	for _, c := range []struct {
		y      *system.System
		l      api.Term
		n      int
		faults string // which of the calls refuse it
		at     int
		why    error
		bears  []api.Errno
	}{
		{nil, api.Term{z}, 0, "RFN", 0, nil, []api.Errno{1}},
		{y, api.Term{d, -1}, 0, "RFN", 0, nil, []api.Errno{200}},
		{y, api.Term{d}, 0, "RFN", 0, api.Errno(23), []api.Errno{200, 23}},
		{y, api.Term{lacking}, 7, "RFN", 0, api.Errno(21), []api.Errno{200, 21}},
		{y, api.Term{-100}, -1, "RFN", 0, api.Errno(22), []api.Errno{200, 22}},
		{y, chain(2001, s, z), 0, "RFN", 0, api.Errno(20), []api.Errno{200, 20}},
		{y, api.Term{d, r}, 2, "R", 0, nil, []api.Errno{181}},
		{y, api.Term{d, r}, -1, "R", 0, nil, []api.Errno{181}},
		{y, chain(2000, d, z), 1, "N", 0, nil, []api.Errno{183}},
		{y, join(api.Term{p, r}, chain(1998, s, grow)), 2, "N", 1, nil, []api.Errno{183}},
		{y, join(api.Term{p, i, r}, chain(1996, s, grow)), 3, "", 0, nil, nil},
	} {
		one, other := every(c.y, c.l, c.n), every(c.y, c.l, c.n)
		faults := ""
		for n, err := range one {
			if err == nil {
				continue
			}
			faults += "RFN"[n : n+1]
			for number := range api.Errno(240) {
				if errors.Is(err, number) != slices.Contains(c.bears, number) {
					t.Errorf("%s: errors.Is of %d", told(t, err), number)
				}
			}
			var x, again *api.Fault
			if !errors.As(err, &x) || !errors.As(other[n], &again) {
				t.Fatalf("%v, %v: no Faults", err, other[n])
			}
			if x == again || *x != *again || x.Code != c.bears[0] || x.At != c.at || x.Why != c.why {
				t.Errorf("%v, %v: not two Faults of %d at %d", x, again, c.bears[0], c.at)
			}
		}
		if faults != c.faults {
			t.Errorf("%v: %q of the calls refuse %.80v, not %q", c.bears, faults, c.l, c.faults)
		}
	}
}
