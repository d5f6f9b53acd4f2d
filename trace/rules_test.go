package trace_test

import (
	"errors"
	"math"
	"math/rand"
	"slices"
	"testing"

	"ropewalk/api"
	"ropewalk/system"
	"ropewalk/trace"
)

// someLogs are an empty one, and such as say what can be done and what can't.
func someLogs(t testing.TB) []*trace.Log {
	t.Helper()
	return []*trace.Log{
		empty(t, 1),
		empty(t, 1000),
		filled(t, 9, api.Fired{}),
		filled(t, 2, firedOf(t, "*:0, 0:1, 1:1")...),
		filled(t, 9, api.Fired{Rule: -1, Path: []int{-1}}),
		filled(t, 3, firedOf(t, "7:7, 7:7, 7:7, 7:7")...),
	}
}

// refuses asks Replay of all kinds of logs for the same refusal.
func refuses(t testing.TB, y *system.System, l api.Term, want string) {
	t.Helper()
	for _, log := range someLogs(t) {
		is(t, "Replay", l, whole(log), replay(t, log, y, l), "[] "+want)
	}
}

// R1: a nil log, and a nil system: ErrArg ahead of all else.
func TestNilLogAndSystem(t *testing.T) {
	for _, l := range []api.Term{nil, {z}, {d, r}, {-1}, {-100}, {lacking}, {s}, chain(2001, s, z)} {
		refuses(t, nil, l, "1@0")
		for _, y := range []*system.System{nil, system.New(), full(t)} {
			is(t, "Replay", l, "a nil log", replay(t, nil, y, l), "[] 1@0")
		}
		is(t, "Replay", l, "a log made by hand", replay(t, &trace.Log{}, nil, l), "[] 1@0")
	}
	is(t, "Replay", api.Term{d, r}, "a log made by hand", replay(t, &trace.Log{}, full(t), api.Term{d, r}), "[3 4]")
}

// R1: a system without symbols, made by New or by hand: no list is a closed term.
func TestNoSymbols(t *testing.T) {
	for _, y := range []*system.System{system.New(), {}} {
		refuses(t, y, nil, "180@0 23")
		refuses(t, y, api.Term{0}, "180@0 21")
		refuses(t, y, api.Term{-1}, "180@0")
		refuses(t, y, api.Term{-100}, "180@0 22")
	}
}

// P17.2: a list that is no term, and what term.Check tells of it; a term with a variable, of which that tells nothing: both ahead of all entries.
func TestNoClosedTerm(t *testing.T) {
	y := full(t)
	for _, c := range []struct {
		l    api.Term
		want string
	}{
		{nil, "180@0 23"},
		{api.Term{}, "180@0 23"},
		{api.Term{s}, "180@0 23"},
		{api.Term{z, z}, "180@0 23"},
		{api.Term{r, r}, "180@0 23"},
		{api.Term{d, r, z}, "180@0 23"},
		{api.Term{lacking}, "180@0 21"},
		{api.Term{r, lacking}, "180@0 21"},
		{api.Term{math.MaxInt}, "180@0 21"},
		{api.Term{-100}, "180@0 22"},
		{api.Term{p, r, -100}, "180@0 22"},
		{api.Term{math.MinInt, z}, "180@0 22"},
		{chain(2001, s, z), "180@0 20"},
		{chain(2001, lacking, -100), "180@0 20"},
		{api.Term{-1}, "180@0"},
		{api.Term{d, -1}, "180@0"},
		{api.Term{p, r, -7}, "180@0"},
		{api.Term{p, -99, r}, "180@0"},
		{chain(2000, d, -1), "180@0"},
	} {
		refuses(t, y, c.l, c.want)
	}
}

// R1: a system without rules: no entry can be done.
func TestNoRules(t *testing.T) {
	q := asked{t, made(t, declared)}
	for _, text := range []string{"z", "r", "d(r)", "add(add(z,r),loop)"} {
		q.comes(text, "", text)
		q.comes(text, "*:0", "170@0 182@0")
		q.comes(text, "7:0", "170@0")
	}
	q.comes("d(r)", "0:1", "170@0 182@1")
}

// R1, R5: a system that was copied, or copied by hand, stands on its own; it is asked anew each time: rules and symbols that came are seen.
func TestOtherSystems(t *testing.T) {
	y := made(t, declared, "d(X) -> p(X,X)")
	copied, byHand := y.Copy(), *y
	l := filled(t, 9, firedOf(t, "*:0, 0:1")...)
	is(t, "Replay", api.Term{d, r}, "ahead", replay(t, l, y, api.Term{d, r}), "[] 170@1 182@1")
	rule(t, y, "r -> z")
	for _, other := range []*system.System{copied, &byHand} {
		is(t, "Replay", api.Term{d, r}, "a copy", replay(t, l, other, api.Term{d, r}), "[] 170@1 182@1")
	}
	is(t, "Replay", api.Term{d, r}, "behind", replay(t, l, y, api.Term{d, r}), "[2 0 0]")
	late := api.Term{d, lacking}
	is(t, "Replay", late, "ahead", replay(t, l, y, late), "[] 180@0 21")
	if err := y.AddSymbols([]api.Symbol{{Name: "late", Defined: true}}); err != nil {
		t.Fatal(told(t, err))
	}
	is(t, "Replay", late, "no rule", replay(t, l, y, late), "[] 170@1 182@1")
	rule(t, y, "late -> r")
	is(t, "Replay", late, "another rule", replay(t, l, y, late), "[] 170@1")
	l.Add(api.Fired{})
	is(t, "Replay", late, "another rule", replay(t, l, y, late), "[] 170@1")
	l = filled(t, 9, firedOf(t, "*:0, 1:2, 0:1")...)
	is(t, "Replay", late, "its rule", replay(t, l, y, late), "[2 0 0]")
	is(t, "Replay", api.Term{d, r}, "another rule", replay(t, l, y, api.Term{d, r}), "[] 170@1")
}

// odd is what goes into Replay: all kinds of logs and terms, many of which are refused.
type odd struct {
	most    int
	entries []api.Fired
	l       api.Term
}

func odds(t testing.TB, y *system.System) []odd {
	t.Helper()
	l := []odd{
		{1, nil, nil},
		{1, firedOf(t, "*:0"), api.Term{s}},
		{2, nil, api.Term{lacking}},
		{2, firedOf(t, "*:0"), api.Term{d, -1}},
		{3, nil, chain(2001, s, z)},
		{3, []api.Fired{{Rule: 11, Path: make([]int, 1999)}}, chain(2000, s, grow)},
		{3, firedOf(t, "*:0"), chain(2000, d, z)},
		{1000, slices.Repeat(firedOf(t, "0:6"), 40), api.Term{s, loop}},
		{30, slices.Repeat(firedOf(t, "0:6"), 40), api.Term{s, loop}},
		{5, firedOf(t, "*:0, 0:1, 1:1"), api.Term{d, r}},
		{2, firedOf(t, "*:0, 0:1, 1:1"), api.Term{d, r}},
		{2, firedOf(t, "*:0, 0:1, 2:1"), api.Term{p, r, r}},
		{5, []api.Fired{{Rule: math.MinInt, Path: []int{math.MaxInt}}}, api.Term{d, r}},
	}
	random := rand.New(rand.NewSource(7))
	w := wordsOf(y)
	for _, text := range []string{"r", "p(r,d(h))", "d(d(add(z,r)))", "d(k(s(r),loop))", "six(r,d(z),i(z),r,grow,e(r))", "i(i(r))", "d(m(n(h)))"} {
		x := read(t, y, text)
		for most := range 8 {
			entries := w.someEntries(random, x, most)
			l = append(l, odd{9, entries, x}, odd{1 + most, append(entries, api.Fired{Rule: most, Path: []int{most}}), x})
		}
	}
	return l
}

// R3: no call but Add changes a log, and none the system.
func TestNothingChanges(t *testing.T) {
	y := full(t)
	before := everything(y)
	for _, c := range odds(t, y) {
		l := filled(t, c.most, c.entries...)
		had := whole(l)
		for range 2 {
			replay(t, l, y, c.l)
			replay(t, l, nil, c.l)
			if whole(l) != had || had != wholeOf(c.most, c.entries) {
				t.Errorf("%s, then %s", had, whole(l))
			}
		}
		l.Add(api.Fired{Rule: 77})
		if whole(l) != wholeOf(c.most, append(slices.Clone(c.entries), api.Fired{Rule: 77})) {
			t.Errorf("%s behind %s", whole(l), had)
		}
	}
	if everything(y) != before {
		t.Errorf("%s, then %s", before, everything(y))
	}
}

// R3, R5: systems by chance stay, too.
func TestSystemStays(t *testing.T) {
	random := rand.New(rand.NewSource(22))
	for range 200 {
		y, l := someScene(t, random)
		before := everything(y)
		entries := wordsOf(y).someEntries(random, l, 8)
		log := filled(t, 9, append(entries, api.Fired{Rule: 1})...)
		first := replay(t, log, y, l)
		if second := replay(t, log, y, l); first != second {
			t.Errorf("%s, then %s", first, second)
		}
		if everything(y) != before {
			t.Fatalf("%s, then %s", before, everything(y))
		}
	}
}

// R5: the same answers each time, in whatever order one asks, of whatever log with the same entries, whatever spare room a list has.
func TestSameEachTime(t *testing.T) {
	y, other := full(t), full(t)
	var first []string
	var logs []*trace.Log
	for _, c := range odds(t, y) {
		logs = append(logs, filled(t, c.most, c.entries...))
		first = append(first, replay(t, logs[len(logs)-1], y, c.l))
	}
	for range 2 {
		for n, c := range slices.Backward(odds(t, y)) {
			roomy := append(slices.Clone(c.l), 1, 2, 3)[:len(c.l)]
			for _, y := range []*system.System{y, other} {
				is(t, "Replay", c.l, c.entries, replay(t, logs[n], y, roomy), first[n])
				is(t, "Replay", c.l, c.entries, replay(t, filled(t, c.most, c.entries...), y, roomy), first[n])
			}
		}
	}
}

// R4: the term that is handed in stays, its spare room included, whether it is refused or not.
func TestGivenStays(t *testing.T) {
	y := full(t)
	for _, c := range odds(t, y) {
		all := append(slices.Clone(c.l), 55, 56, 57, 58, 59, 60)
		before := slices.Clone(all)
		replay(t, filled(t, c.most, c.entries...), y, all[:len(c.l)])
		if !slices.Equal(all, before) {
			t.Errorf("%.80v, then %.80v", before, all)
		}
	}
}

// R4: what is answered is new memory, spare room too: it shares none with what was handed in, nor with another answer, the log or the system; nothing hangs on it, nor it on what comes later.
func TestAnswersAreNew(t *testing.T) {
	y := full(t)
	before := everything(y)
	for _, c := range odds(t, y) {
		l := filled(t, c.most, c.entries...)
		had, given := whole(l), slices.Clone(c.l)
		one, err := l.Replay(y, c.l)
		other, _ := l.Replay(y, c.l)
		want := numbers(other)
		if err != nil && len(one) > 0 || numbers(one) != want {
			t.Errorf("%.80v: %v beside %v, then %v", c, one, err, other)
		}
		spoil(one)
		if numbers(other) != want || !slices.Equal(c.l, given) || whole(l) != had || everything(y) != before {
			t.Fatalf("%.80v: its answer shares memory", c)
		}
		third, _ := l.Replay(y, c.l)
		spoil(c.l)
		l.Add(api.Fired{Rule: 5})
		if numbers(third) != want || numbers(other) != want {
			t.Errorf("%.80v: its answer hangs on what was handed in", c)
		}
	}
}

// Errors: numbers are the document's; each answer is a Fault of its own, found by errors.Is and errors.As, with its At and its Why.
func TestErrors(t *testing.T) {
	if api.OK != 0 || api.ErrArg != 1 || api.ErrTraceReplay != 170 || api.ErrRewriteTerm != 180 || api.ErrRewriteRedex != 182 || api.ErrRewriteLong != 183 {
		t.Error("OK, ErrArg, ErrTraceReplay, ErrRewriteTerm, ErrRewriteRedex or ErrRewriteLong")
	}
	if api.MaxTrace != 1000 || api.MaxTerm != 2000 {
		t.Error("limits")
	}
	y := full(t)
	for _, c := range []struct {
		y       *system.System
		entries string
		l       api.Term
		at      int
		why     string // "": none
		bears   []api.Errno
	}{
		{nil, "*:0", api.Term{z}, 0, "", []api.Errno{1}},
		{y, "*:0", api.Term{d}, 0, "23", []api.Errno{180, 23}},
		{y, "", api.Term{lacking}, 0, "21", []api.Errno{180, 21}},
		{y, "9:0", api.Term{-100}, 0, "22", []api.Errno{180, 22}},
		{y, "", chain(2001, s, z), 0, "20", []api.Errno{180, 20}},
		{y, "*:0", api.Term{d, -1}, 0, "", []api.Errno{180}},
		{y, "1:0", api.Term{d, r}, 0, "", []api.Errno{170}},
		{y, "*:0, 2:1", api.Term{d, r}, 1, "", []api.Errno{170}},
		{y, "*:1", api.Term{d, r}, 0, "", []api.Errno{170}},
		{y, "*:0, 0:0", api.Term{d, r}, 1, "", []api.Errno{170}},
		{y, "*:0", api.Term{z}, 0, "182@0", []api.Errno{170, 182}},
		{y, "*:0, 1:1", api.Term{d, z}, 1, "182@1", []api.Errno{170, 182}},
		{y, "0.0.0:0, 0.0:4, 0:10, 1:1", append(api.Term{s, e, k, d}, numeral(1500)...), 0, "183@0", []api.Errno{170, 183}},
		{y, "0:0, *:0", append(api.Term{d, d}, numeral(700)...), 1, "183@0", []api.Errno{170, 183}},
	} {
		if c.l[0] == s {
			c.l = append(c.l, z)
		}
		l := filled(t, 20, firedOf(t, c.entries)...)
		_, one := l.Replay(c.y, c.l)
		_, other := l.Replay(c.y, c.l)
		for number := range api.Errno(240) {
			if errors.Is(one, number) != slices.Contains(c.bears, number) {
				t.Errorf("%s: errors.Is of %d", told(t, one), number)
			}
		}
		var x, again *api.Fault
		if !errors.As(one, &x) || !errors.As(other, &again) {
			t.Fatalf("%v, %v: no Faults of %v", one, other, c.bears)
		}
		if x == again || x.Code != c.bears[0] || x.At != c.at || again.Code != x.Code || again.At != x.At {
			t.Errorf("%v, %v: not two Faults of %d at %d", x, again, c.bears[0], c.at)
		}
		if c.why == "" && x.Why != nil {
			t.Errorf("%v: it comes of something", x)
		}
		if number, ok := x.Why.(api.Errno); ok && numbers([]int{int(number)}) != "["+c.why+"]" {
			t.Errorf("%v: it comes of %d", x, number)
		}
		if c.bears[0] != api.ErrTraceReplay {
			continue
		}
		var why, whyAgain *api.Fault
		if errors.As(x.Why, &why) != (c.why != "") || errors.As(again.Why, &whyAgain) != (c.why != "") {
			t.Errorf("%v: not what it comes of", x)
		}
		if c.why != "" && (told(t, why) != c.why || why == whyAgain || told(t, whyAgain) != c.why) {
			t.Errorf("%v, %v: not what they come of", x, again)
		}
	}
	if _, err := filled(t, 9, firedOf(t, "*:0, 0:1")...).Replay(y, api.Term{d, r}); err != nil {
		t.Errorf("%v of what is right", err)
	}
	if _, err := empty(t, 9).Replay(y, api.Term{d, r}); err != nil {
		t.Errorf("%v of what is right", err)
	}
}
