package residual_test

import (
	"math"
	"slices"
	"strconv"
	"strings"
	"testing"

	"ropewalk/api"
	"ropewalk/notation"
	"ropewalk/system"
)

// asked is a system, and a test that asks about terms that are written out.
type asked struct {
	t testing.TB
	y *system.System
}

// chapter is a system of the symbols and rules of the chapter's examples.
func chapter(t testing.TB) *system.System {
	t.Helper()
	return made(t, "con z/0, s/1, p/2; fun d/1, r/0, add/2", "d(X) -> p(X,X); r -> z; add(z,Y) -> Y; add(s(X),Y) -> s(add(X,Y))")
}

// list are the numbers that are written in a text.
func list(t testing.TB, text string) []int {
	t.Helper()
	var l []int
	for _, word := range strings.Fields(text) {
		n, err := strconv.Atoi(word)
		if err != nil {
			t.Fatal(err)
		}
		l = append(l, n)
	}
	return l
}

// descend asks what descends from each place of a term that is contracted at one, and what from several of them.
func (q asked) descend(text string, at int, want string, of ...string) {
	q.t.Helper()
	l, u := read(q.t, q.y, text), read(q.t, q.y, want)
	if len(l) != len(of) {
		q.t.Fatalf("%s has %d places, not %d", text, len(l), len(of))
	}
	var to [][]int
	for place := range l {
		to = append(to, list(q.t, of[place]))
		is(q.t, "Step", l, []any{at, place}, step(q.t, q.y, l, at, place), both(u, to[place]))
		is(q.t, "Step", l, []any{at, place, place}, step(q.t, q.y, l, at, place, place), both(u, to[place]))
	}
	is(q.t, "Step", l, at, step(q.t, q.y, l, at), both(u, nil))
	for first := range l {
		for second := range l {
			both := both(u, slices.Compact(slices.Sorted(slices.Values(slices.Concat(to[first], to[second])))))
			is(q.t, "Step", l, []any{at, first, second}, step(q.t, q.y, l, at, first, second), both)
		}
	}
	every := slices.Sorted(slices.Values(slices.Concat(to...)))
	falling := slices.Clone(all(l))
	slices.Reverse(falling)
	is(q.t, "Step", l, []any{at, "all"}, step(q.t, q.y, l, at, all(l)...), both(u, every))
	is(q.t, "Step", l, []any{at, "all, falling"}, step(q.t, q.y, l, at, falling...), both(u, every))
	is(q.t, "Step", l, []any{at, "all, twice"}, step(q.t, q.y, l, at, slices.Concat(falling, all(l))...), both(u, every))
}

// P19.1 to P19.3: the chapter's examples.
func TestExamples(t *testing.T) {
	q := asked{t, chapter(t)}
	l := api.Term{p, d, add, z, r, z}
	is(t, "Step", l, 1, step(t, q.y, l, 1, 0, 1, 2, 4, 5), "[2 2 5 0 4 5 0 4 0] [0 2 4 5 7 8]")
	l = api.Term{add, s, z, r}
	is(t, "Step", l, 0, step(t, q.y, l, 0, 0, 1, 2, 3), "[1 5 0 4] [2 3]")
	is(t, "Step", l, 0, step(t, q.y, l, 0, 4), "[] [] 190@0")
	is(t, "Step", l, 1, step(t, q.y, l, 1), "[] [] 182@1")
	l = api.Term{p, r, d, r}
	is(t, "Together", l, "3 1", together(t, q.y, l, 3, 1), "[2 0 3 0]")
	is(t, "Together", l, "2 3", together(t, q.y, l, 2, 3), "[] 191@1")
	is(t, "Together", l, "0", together(t, q.y, l, 0), "[] 182@0")
	l = api.Term{d, r}
	is(t, "Through", l, "1", through(t, q.y, l, movesOf(t, "*:0, 0:1"), 1), "[2 0 4] [2]")
}

// P19.1: what descends from each place: of one ahead of the redex, above it, behind it; of the redex, of a symbol of the left side within it; of what stands for a variable, and of what lies within that: thrown away, held once, twice, by a right side that is a variable, or deep in it.
func TestDescendants(t *testing.T) {
	q := asked{t, full(t)}
	q.descend("r", 0, "z", "")
	q.descend("loop", 0, "loop", "") // what comes of the redex does not descend from it
	q.descend("grow", 0, "s(z)", "")
	q.descend("d(z)", 0, "p(z,z)", "", "1 2")
	q.descend("i(z)", 0, "z", "", "0")
	q.descend("k(z,r)", 0, "z", "", "0", "")
	q.descend("k(r,z)", 0, "r", "", "0", "")
	q.descend("p(r,r)", 1, "p(z,r)", "0", "", "2")
	q.descend("p(r,r)", 2, "p(r,z)", "0", "1", "")
	q.descend("p(grow,r)", 1, "p(s(z),r)", "0", "", "3")
	q.descend("p(r,grow)", 2, "p(r,s(z))", "0", "1", "")
	q.descend("s(s(s(r)))", 3, "s(s(s(z)))", "0", "1", "2", "")
	q.descend("p(d(add(z,r)),z)", 1, "p(p(add(z,r),add(z,r)),z)", "0", "", "2 5", "3 6", "4 7", "8")
	q.descend("add(s(z),r)", 0, "s(add(z,r))", "", "", "2", "3")
	q.descend("k(s(r),d(z))", 0, "s(r)", "", "0", "1", "", "")
	q.descend("s(k(r,loop))", 1, "s(r)", "0", "", "1", "")
	q.descend("p(k(s(r),d(z)),r)", 1, "p(s(r),r)", "0", "", "1", "2", "", "", "3")
	q.descend("i(i(z))", 0, "i(z)", "", "0", "1")
	q.descend("i(i(z))", 1, "i(z)", "0", "", "1")
	q.descend("add(z,s(r))", 0, "s(r)", "", "", "0", "1")
	q.descend("p(add(z,d(r)),s(z))", 1, "p(d(r),s(z))", "0", "", "", "1", "2", "3", "4")
	q.descend("f(s(r),d(z),z)", 0, "f(r,d(z),d(z))", "", "", "1", "2 4", "3 5", "")
	q.descend("f(z,z,p(r,z))", 0, "p(r,z)", "", "", "", "0", "1", "2")
	q.descend("f(p(r,s(i(z))),d(z),loop)", 0, "six(loop,i(z),d(z),r,loop,s(d(d(z))))", "", "", "6", "", "2", "3", "4 10", "5 11", "1 7")
	q.descend("s(e(d(z)))", 1, "s(p(d(z),s(d(z))))", "0", "", "2 5", "3 6")
	q.descend("d(d(d(z)))", 0, "p(d(d(z)),d(d(z)))", "", "1 4", "2 5", "3 6")
	q.descend("d(d(d(z)))", 1, "d(p(d(z),d(z)))", "0", "", "2 4", "3 5")
	q.descend("d(d(d(z)))", 2, "d(d(p(z,z)))", "0", "1", "", "3 4")
	q.descend("six(z,r,z,d(s(z)),r,z)", 4, "six(z,r,z,p(s(z),s(z)),r,z)", "0", "1", "2", "3", "", "5 7", "6 8", "9", "10")
	q.descend("g(d(z),r,k(p(z,r),s(s(z))),z,d(r),z)", 4, "g(d(z),r,p(z,r),z,d(r),z)",
		"0", "1", "2", "3", "", "4", "5", "6", "", "", "", "7", "8", "9", "10")
}

// P19.1: variables of whatever numbers, in whatever order, as often as one likes; a right side with none, though the left side has some.
func TestVariables(t *testing.T) {
	q := asked{t, made(t, "con z/0, s/1; fun h/3; con six/6; fun b/0, c/2")}
	if err := q.y.AddRules([]api.Rule{
		{Left: api.Term{2, -99, -7, -50}, Right: api.Term{3, -7, -50, -99, -7, -7, 1, -50}},
		{Left: api.Term{5, -2, -1}, Right: api.Term{1, 0}},
	}); err != nil {
		t.Fatal(told(t, err))
	}
	q.descend("s(h(s(z),b,s(b)))", 1, "s(six(b,s(b),s(z),b,b,s(s(b))))", "0", "", "5", "6", "2 7 8", "3 10", "4 11")
	q.descend("c(s(b),b)", 0, "s(z)", "", "", "", "")
}

// P19.1: rewrite's Faults stand ahead of the places; of these the first one that is none is told.
func TestStepRefuses(t *testing.T) {
	y := full(t)
	for _, c := range []struct {
		text   string
		at     int
		places []int
		want   string
	}{
		{"d(r)", 2, nil, "181@0"},
		{"d(r)", -1, nil, "181@0"},
		{"d(r)", math.MinInt, []int{9}, "181@0"},
		{"d(r)", math.MaxInt, []int{9}, "181@0"},
		{"d(z)", 1, nil, "182@1"},
		{"p(z,s(z))", 2, []int{-1, 9}, "182@2"},
		{"d(r)", 0, []int{2}, "190@0"},
		{"d(r)", 0, []int{-1}, "190@0"},
		{"d(r)", 1, []int{math.MinInt}, "190@0"},
		{"d(r)", 1, []int{math.MaxInt}, "190@0"},
		{"d(r)", 0, []int{1, 2}, "190@1"}, // a place of the new term, and none of the old one
		{"d(r)", 0, []int{0, 1, 0, -1, 5, 1}, "190@3"},
		{"d(r)", 0, []int{0, 1, 0, 5, -1}, "190@3"},
		{"k(z,s(z))", 0, []int{3, 2, 1, 4}, "190@3"},
	} {
		l := read(t, y, c.text)
		is(t, "Step", l, []any{c.at, c.places}, step(t, y, l, c.at, c.places...), "[] [] "+c.want)
	}
	great := chain(2000, d, z)
	is(t, "Step", great, 1, step(t, y, great, 0, 2000), "[] [] 183@0")
	is(t, "Step", great, 1, step(t, y, great, 1998, -1), "[] [] 183@1998")
}

// becomes asks Together about a term that is written out: for another one, or for a refusal.
func (q asked) becomes(text string, want string, places ...int) {
	q.t.Helper()
	l := read(q.t, q.y, text)
	if strings.Contains(want, "@") {
		want = "[] " + want
	} else {
		want = numbers(read(q.t, q.y, want))
	}
	is(q.t, "Together", l, places, together(q.t, q.y, l, places...), want)
}

// P19.2: none, one, several places, in whatever order.
func TestTogether(t *testing.T) {
	q := asked{t, full(t)}
	q.becomes("r", "r")
	q.becomes("r", "z", 0)
	q.becomes("p(z,s(z))", "p(z,s(z))")
	q.becomes("p(r,d(r))", "p(r,d(r))")
	q.becomes("p(r,d(r))", "p(z,d(r))", 1)
	q.becomes("p(r,d(r))", "p(r,p(r,r))", 2)
	q.becomes("p(r,d(r))", "p(r,d(z))", 3)
	q.becomes("p(r,d(r))", "p(z,p(r,r))", 1, 2)
	q.becomes("p(r,d(r))", "p(z,p(r,r))", 2, 1)
	q.becomes("p(r,d(r))", "p(z,d(z))", 1, 3)
	q.becomes("d(d(r))", "p(d(r),d(r))", 0)
	q.becomes("six(r,d(r),k(s(r),loop),i(d(z)),grow,e(r))", "six(z,d(z),s(r),d(z),s(z),p(r,s(r)))", 1, 3, 4, 8, 11, 12)
	q.becomes("six(r,d(r),k(s(r),loop),i(d(z)),grow,e(r))", "six(z,d(z),s(r),d(z),s(z),p(r,s(r)))", 11, 8, 12, 3, 1, 4)
	q.becomes("six(r,d(r),k(s(r),loop),i(d(z)),grow,e(r))", "six(r,p(r,r),k(s(z),loop),i(p(z,z)),grow,e(z))", 13, 6, 2, 9, 7) // loop becomes loop
	q.becomes("add(add(z,r),add(s(z),i(r)))", "add(r,s(add(z,i(r))))", 1, 4)
	q.becomes("add(add(z,r),add(s(z),i(r)))", "add(add(z,z),add(s(z),r))", 7, 3)
	q.becomes("add(add(z,r),add(s(z),i(r)))", "add(add(z,z),add(s(z),i(z)))", 8, 3)
}

// P19.2: of the first number that is no place; else of the first place that is an earlier one, or lies in one, or in which one lies; else of the first at which no rule fits.
func TestTogetherRefuses(t *testing.T) {
	q := asked{t, full(t)}
	for _, c := range []struct {
		text   string
		places []int
		want   string
	}{
		{"p(r,d(r))", []int{4}, "190@0"},
		{"p(r,d(r))", []int{-1}, "190@0"},
		{"p(r,d(r))", []int{math.MinInt}, "190@0"},
		{"p(r,d(r))", []int{math.MaxInt}, "190@0"},
		{"p(r,d(r))", []int{1, 3, 4, -1}, "190@2"},
		{"p(r,d(r))", []int{1, 3, -1, 4}, "190@2"},
		{"p(r,d(r))", []int{1, 1, 4}, "190@2"}, // ahead of what is an earlier one
		{"p(r,d(r))", []int{0, 4}, "190@1"},    // ahead of where no rule fits
		{"p(r,d(r))", []int{1, 1}, "191@1"},
		{"p(r,d(r))", []int{2, 3}, "191@1"},
		{"p(r,d(r))", []int{3, 2}, "191@1"},
		{"p(r,d(r))", []int{3, 1, 3}, "191@2"},
		{"p(r,d(r))", []int{1, 2, 3}, "191@2"},
		{"p(r,d(r))", []int{1, 3, 2}, "191@2"},
		{"p(r,d(r))", []int{1, 3, 0}, "191@2"},
		{"p(r,d(r))", []int{1, 3, 0, 1}, "191@2"}, // the first one
		{"p(r,d(r))", []int{0, 1}, "191@1"},       // ahead of where no rule fits
		{"p(r,d(r))", []int{0, 0}, "191@1"},
		{"p(r,d(r))", []int{0}, "182@0"},
		{"s(d(s(d(r))))", []int{1, 4}, "191@1"}, // far within
		{"s(d(s(d(r))))", []int{4, 1}, "191@1"},
		{"d(d(d(d(z))))", []int{3, 0}, "191@1"},
		{"p(d(z),r)", []int{1, 2}, "191@1"}, // the last one of a subterm
		{"p(d(z),r)", []int{2, 1}, "191@1"},
		{"p(d(z),r)", []int{2, 3}, "182@2"},
		{"six(z,r,s(z),d(z),r,z)", []int{1, 3}, "182@1"},
		{"six(z,r,s(z),d(z),r,z)", []int{3, 1}, "182@3"},
		{"six(z,r,s(z),d(z),r,z)", []int{2, 5, 7, 8}, "182@8"},
		{"six(z,r,s(z),d(z),r,z)", []int{7, 4, 2, 1}, "182@4"},
		{"add(add(p(z,z),z),z)", []int{1}, "182@1"}, // it is rigid
	} {
		q.becomes(c.text, c.want, c.places...)
	}
}

// goes asks Through about a term that is written out: for another one and places, or for a refusal.
func (q asked) goes(text, moves, places, want, to string) {
	q.t.Helper()
	l := read(q.t, q.y, text)
	if strings.Contains(want, "@") {
		want = "[] [] " + want
	} else {
		want = both(read(q.t, q.y, want), list(q.t, to))
	}
	is(q.t, "Through", l, []any{moves, places}, through(q.t, q.y, l, movesOf(q.t, moves), list(q.t, places)...), want)
}

// P19.3: no move, one, several; of no place, one, several.
func TestThrough(t *testing.T) {
	q := asked{t, full(t)}
	q.goes("d(r)", "", "", "d(r)", "")
	q.goes("d(r)", "", "1", "d(r)", "1")
	q.goes("d(r)", "", "1 0 1 1 0", "d(r)", "0 1")
	q.goes("z", "", "0", "z", "0")
	q.goes("d(r)", "*:0", "", "p(r,r)", "")
	q.goes("d(r)", "*:0", "1", "p(r,r)", "1 2")
	q.goes("d(r)", "*:0", "1 0 1", "p(r,r)", "1 2")
	q.goes("d(r)", "0:1", "1 0", "d(z)", "0")
	q.goes("d(r)", "*:0, 0:1", "1", "p(z,r)", "2")
	q.goes("d(r)", "*:0, 1:1", "1", "p(r,z)", "1")
	q.goes("d(r)", "*:0, 1:1, 0:1", "1", "p(z,z)", "")
	q.goes("d(r)", "0:1, *:0", "0 1", "p(z,z)", "")
	q.goes("d(d(r))", "*:0, 1:0, 1.1:1", "1 2", "p(d(r),p(r,z))", "1 2 4")
	q.goes("d(d(r))", "0:0, *:0", "2 0", "p(p(r,r),p(r,r))", "2 3 5 6")
	q.goes("add(s(s(z)),k(d(r),loop))", "*:3, 0.1:4, 0:3, 0.0.1.0:1, 0.0:2, 0.0:0", "0 1 2 3 4 5 6 7", "s(s(p(z,z)))", "")
	q.goes("add(s(s(z)),k(d(r),loop))", "*:3, 0.1:4, 0:3, 0.0:2, 0.0:0", "6 4 3 7", "s(s(p(r,r)))", "3 4")
	q.goes("p(loop,r)", "0:6, 0:6, 0:6, 1:1, 0:6", "0 1 2", "p(loop,z)", "0")
	q.goes("six(r,k(r,r),r,z,z,i(r))", "1:4, 5:5, 2:1, 0:1", "0 1 2 3 4 5 8 9", "six(z,r,z,z,z,r)", "0 2 6")
	q.goes("s(e(e(r)))", "0:10, 0.0:10, 0.1.0:10, 0.1.0.1.0:1", "3 2 0", "s(p(p(r,s(r)),s(p(r,s(z)))))", "0 3 5 8")
}

// P19.3: which of several is told, and at which move.
func TestThroughRefuses(t *testing.T) {
	q := asked{t, full(t)}
	for _, c := range []struct{ text, moves, places, want string }{
		{"d(r)", "", "2", "190@0"},
		{"d(r)", "", "0 1 1 2 -1", "190@3"},
		{"d(r)", "*:0", "0 -1 2", "190@1"},
		{"d(r)", "1:0", "2", "190@0"},    // ahead of the moves
		{"d(r)", "*:0", "1 2", "190@1"},  // a place of what comes of it, and none of the term
		{"d(r)", "1:0", "", "181@0"},     // no such argument
		{"d(r)", "0.0:1", "", "181@0"},   // it goes on behind a symbol without arguments
		{"d(r)", "6:0", "", "181@0"},     // no symbol has so many
		{"d(r)", "0:7", "", "182@0"},     // another rule than the move's
		{"d(r)", "0:0", "", "182@0"},     // the rule of another place
		{"d(r)", "*:1", "", "182@0"},     //
		{"d(z)", "0:1", "", "182@0"},     // no rule
		{"d(z)", "0:0", "", "182@0"},     // none either
		{"d(z)", "0:99999", "", "182@0"}, // no such rule
		{"d(r)", "*:0, 0:1, 1:1, 2:1", "1", "181@3"},
		{"d(r)", "*:0, 0:1, 0.0:1, 1:7", "1", "181@2"},
		{"d(r)", "*:0, 0:1, 0:1, 5:1", "1", "182@2"}, // it was contracted
		{"d(r)", "*:0, *:0", "1", "182@1"},
		{"d(r)", "*:0, 1:0", "0", "182@1"},
		{"d(r)", "0:1, 0:1", "0", "182@1"},
	} {
		q.goes(c.text, c.moves, c.places, c.want, "")
	}
	y, l := q.y, api.Term{d, r}
	for _, c := range []struct {
		m    api.Move
		want string
	}{
		{api.Move{Path: []int{-1}, Rule: 1}, "181"},
		{api.Move{Path: []int{0, math.MinInt}, Rule: 1}, "181"},
		{api.Move{Path: []int{math.MaxInt}}, "181"},
		{api.Move{Path: slices.Repeat([]int{0}, 5000)}, "181"},
		{api.Move{Rule: -1}, "182"},
		{api.Move{Rule: math.MinInt}, "182"},
		{api.Move{Path: []int{0}, Rule: math.MaxInt}, "182"},
		{api.Move{Path: []int{}, Rule: 12}, "182"},
	} {
		is(t, "Through", l, c.m, through(t, y, l, []api.Move{c.m, {Path: []int{9}}}), "[] [] "+c.want+"@0")
		is(t, "Through", l, c.m, through(t, y, api.Term{k, d, r, loop}, []api.Move{{Path: []int{1}, Rule: 6}, {Rule: 4}, c.m}), "[] [] "+c.want+"@2")
	}
}

// loops are so many moves that turn the loop beneath an s into itself.
func loops(n int) []api.Move {
	return slices.Repeat([]api.Move{{Path: []int{0}, Rule: 6}}, n)
}

// P19.3: MaxMoves moves, and one more; what is told ahead of that, and what it is told ahead of.
func TestManyMoves(t *testing.T) {
	y, l := full(t), api.Term{s, loop}
	is(t, "Through", l, 1000, through(t, y, l, loops(1000), 0, 1), "[1 9] [0]")
	is(t, "Through", l, 1000, through(t, y, l, append(loops(999), api.Move{})), "[] [] 182@999")
	is(t, "Through", l, 1000, through(t, y, l, append(loops(999), api.Move{Path: []int{1}})), "[] [] 181@999")
	is(t, "Through", l, 1001, through(t, y, l, loops(1001), 0, 1), "[] [] 1@0")
	is(t, "Through", l, 1001, through(t, y, l, loops(5000)), "[] [] 1@0")
	is(t, "Through", l, 1001, through(t, y, l, make([]api.Move, 1001)), "[] [] 1@0") // ahead of its first move
	is(t, "Through", l, 1001, through(t, y, l, loops(1001), 0, 2), "[] [] 190@1")
	is(t, "Through", api.Term{s, s}, 1001, through(t, y, api.Term{s, s}, loops(1001), 0, 2), "[] [] 180@0 23")
}

// chain is so many numbers: one symbol of one argument over and over, and another number last.
func chain(size, symbol, last int) api.Term {
	return append(slices.Repeat(api.Term{symbol}, size-1), last)
}

// numeral is a term of so many symbols, in normal form.
func numeral(size int) api.Term { return chain(size, s, z) }

var join = slices.Concat[api.Term]

// P19.1, P19.3: a term of MaxTerm symbols may come of a contraction, and one of one more may not.
func TestLong(t *testing.T) {
	y := full(t)
	l := join(api.Term{s, d}, numeral(999))
	u := join(api.Term{s, p}, numeral(999), numeral(999))
	to := append([]int{0}, all(u)[2:]...) // all but what has come of the redex
	is(t, "Step", l, 1, step(t, y, l, 1, all(l)...), both(u, to))
	is(t, "Through", l, 1, through(t, y, l, movesOf(t, "0:0"), all(l)...), both(u, to))
	longer := append(api.Term{s}, l...)
	is(t, "Step", longer, 2, step(t, y, longer, 2, 0, 1), "[] [] 183@2")
	is(t, "Through", longer, 2, through(t, y, longer, movesOf(t, "0.0:0"), 0, 1), "[] [] 183@0")

	l = join(api.Term{p, loop, d, d}, numeral(998)) // the second one makes it too long, the first one does not
	moves := movesOf(t, "0:6, 1.0:0, 1:0")
	is(t, "Through", l, moves[:2], through(t, y, l, moves[:2], 0, 1, 2, 3, 4), both(join(api.Term{p, loop, d, p}, numeral(998), numeral(998)), []int{0, 2, 4, 1002}))
	is(t, "Through", l, moves, through(t, y, l, moves), "[] [] 183@2")
	// Another rule than the move's is told ahead of what is too long; so is a path that leads nowhere.
	moves[2].Rule = 1
	is(t, "Through", l, moves, through(t, y, l, moves), "[] [] 182@2")
	moves[2].Path = []int{1, 1}
	is(t, "Through", l, moves, through(t, y, l, moves), "[] [] 181@2")
	moves[2] = api.Move{Path: []int{1, 0, 0}}
	is(t, "Through", l, moves, through(t, y, l, moves), "[] [] 182@2")
}

// P19.2: what is too long is what comes of all places; and it is told behind all else.
func TestTogetherLong(t *testing.T) {
	y := full(t)
	for _, c := range []struct {
		what   string
		l      api.Term
		places []int
		want   string // "": the parts of u, one behind the other
		u      api.Term
	}{
		{"one part, just so much", join(api.Term{s, d}, numeral(999)), []int{1}, "", join(api.Term{s, p}, numeral(999), numeral(999))},
		{"one part, one more with what stands ahead", join(api.Term{s, s, d}, numeral(999)), []int{2}, "183@0", nil},
		{"one part, one more with what stands behind", join(api.Term{p, d}, numeral(999), api.Term{z}), []int{1}, "183@0", nil},
		{"one part alone", join(api.Term{d}, numeral(1000)), []int{0}, "183@0", nil},
		{"one part alone, far too long", join(api.Term{d}, numeral(1999)), []int{0}, "183@0", nil},
		{"two parts, just so much", join(api.Term{p, d}, numeral(499), api.Term{e}, numeral(499)), []int{1, 501}, "",
			join(api.Term{p, p}, numeral(499), numeral(499), api.Term{p}, numeral(499), api.Term{s}, numeral(499))},
		{"two parts, too long together alone", join(api.Term{p, d}, numeral(500), api.Term{e}, numeral(500)), []int{1, 502}, "183@0", nil},
		{"the last symbol makes it just so long", join(chain(1998, s, s), api.Term{grow}), []int{1998}, "", join(chain(1998, s, s), api.Term{s, z})},
		{"the last symbol makes it too long", join(chain(1999, s, s), api.Term{grow}), []int{1999}, "183@0", nil},
		// What comes of the one is too long till the other one is done, too; whichever stands first.
		{"longer and shorter", join(api.Term{p, i}, numeral(1997), api.Term{grow}), []int{1999, 1}, "", join(api.Term{p}, numeral(1997), api.Term{s, z})},
		{"longer and shorter, the other way", join(api.Term{p, i}, numeral(1997), api.Term{grow}), []int{1, 1999}, "", join(api.Term{p}, numeral(1997), api.Term{s, z})},
		{"longer ahead of shorter", join(api.Term{p, grow, i}, numeral(1997)), []int{1, 2}, "", join(api.Term{p, s, z}, numeral(1997))},
		{"longer ahead of shorter, the other way", join(api.Term{p, grow, i}, numeral(1997)), []int{2, 1}, "", join(api.Term{p, s, z}, numeral(1997))},
		{"longer alone", join(api.Term{p, i}, numeral(1997), api.Term{grow}), []int{1999}, "183@0", nil},
		{"twice longer, once shorter", join(api.Term{p, i}, numeral(1995), api.Term{p, grow, grow}), []int{1999, 1, 1998}, "183@0", nil},
		{"twice longer, once shorter, from less", join(api.Term{p, i}, numeral(1994), api.Term{p, grow, grow}), []int{1998, 1, 1997}, "",
			join(api.Term{p}, numeral(1994), api.Term{p, s, z, s, z})},
		{"thrown away", join(api.Term{p, k, z}, numeral(1000), api.Term{d}, numeral(900)), []int{1, 1003}, "", join(api.Term{p, z, p}, numeral(900), numeral(900))},
		// No rule fits at a place behind the one that makes it too long, or the places are none, or lie in one another.
		{"no rule behind it", join(api.Term{p, d}, numeral(1500), numeral(3)), []int{1, 1502}, "182@1502", nil},
		{"no rule ahead of it", join(api.Term{p, d}, numeral(1500), numeral(3)), []int{1502, 1}, "182@1502", nil},
		{"within it", join(api.Term{p, d}, numeral(1500), numeral(3)), []int{1, 1501}, "191@1", nil},
		{"no place", join(api.Term{p, d}, numeral(1500), numeral(3)), []int{1, 1505}, "190@1", nil},
	} {
		if len(c.l) > 2000 {
			t.Fatalf("%s: %d symbols", c.what, len(c.l))
		}
		want := "[] " + c.want
		if c.want == "" {
			want = numbers(c.u)
			if len(c.u) > 2000 {
				t.Fatalf("%s: to %d symbols", c.what, len(c.u))
			}
		}
		if got := together(t, y, c.l, c.places...); got != want {
			t.Errorf("%s: Together of %d symbols for %v: %.80s, not %.80s", c.what, len(c.l), c.places, got, want)
		}
	}
}

// row is five parts, and a row of the others as the sixth one, and so on, in symbols of six arguments; 0 where none is left.
func row(symbol int, parts []api.Term) api.Term {
	t := api.Term{symbol}
	for n := range 5 {
		if n < len(parts) {
			t = append(t, parts[n]...)
		} else {
			t = append(t, 0)
		}
	}
	if len(parts) > 5 {
		return append(t, row(symbol, parts[5:])...)
	}
	return append(t, 0)
}

// P19.1: MaxVariables variables, and a side of MaxSide numbers that holds one of them 100 times.
func TestGreatSides(t *testing.T) {
	y := made(t, "con z/0, s/1, p/2, six/6; fun h/1, b/1")
	var down, up, terms []api.Term
	for n := 1; n <= 99; n++ {
		part := join(api.Term{2}, chain(1+n/10, 1, 0), chain(1+n%10, 1, 0)) // another one for each variable
		down, terms = append([]api.Term{{-n}}, down...), append([]api.Term{part}, terms...)
		up = append(up, api.Term{-n})
	}
	many := append(slices.Repeat(api.Term{2, -5}, 99), 1, -5)
	if len(many) != 200 {
		t.Fatal(len(many))
	}
	if err := y.AddRules([]api.Rule{{Left: append(api.Term{4}, row(3, down)...), Right: row(3, up)}, {Left: api.Term{5, -5}, Right: many}}); err != nil {
		t.Fatal(told(t, err))
	}
	w := wordsOf(y)
	l := join(api.Term{2, 4}, row(3, terms), api.Term{0})
	got := w.asksStep(t, y, l, 1, all(l)...)
	if x := strings.Fields(got); len(x) < 1000 {
		t.Errorf("%d numbers: %.80s", len(x), got)
	}
	for place := 0; place < len(l); place += 7 {
		w.asksStep(t, y, l, 1, place)
	}
	l = api.Term{1, 5, 2, 0, 4, 0}
	for place := range l {
		w.asksStep(t, y, l, 1, place)
	}
	w.asksStep(t, y, l, 1, all(l)...)
	x := strings.Fields(step(t, y, l, 1, 5))
	if x[len(x)-1] != "500]" || len(x) != 1+1+99+4*100+100 {
		t.Errorf("%v", x)
	}
}

// P19.1 to P19.3: terms of MaxTerm symbols, all their places, lists that are longer than a term, and as many moves as may be: in time.
func TestGreat(t *testing.T) {
	y := full(t)
	comb := append(slices.Repeat(api.Term{p, r}, 999), z)
	var odd, even, heirs []int
	var moves []api.Move
	var path []int
	for n := range 999 {
		odd, even = append(odd, 2*n+1), append(even, 2*n)
		moves = append(moves, api.Move{Path: append(slices.Clone(path), 0), Rule: 1})
		path = append(path, 1)
		heirs = append(heirs, 2*n)
	}
	heirs = append(heirs, 1998)
	plain := append(slices.Repeat(api.Term{p, z}, 999), z)
	is(t, "Together", comb, "odd", together(t, y, comb, odd...), numbers(plain))
	slices.Reverse(odd)
	is(t, "Together", comb, "odd", together(t, y, comb, odd...), numbers(plain))
	is(t, "Together", comb, "odd and one of them", together(t, y, comb, append(slices.Clone(odd), 1)...), "[] 191@999")
	is(t, "Together", comb, "odd and even", together(t, y, comb, append(slices.Clone(odd), even...)...), "[] 191@999")
	is(t, "Through", comb, "all", through(t, y, comb, moves, all(comb)...), both(plain, heirs))
	many := slices.Repeat(all(comb), 500)
	is(t, "Step", comb, "many", step(t, y, comb, 1, many...), both(append(api.Term{p, z}, comb[2:]...), append([]int{0}, all(comb)[2:]...)))
	is(t, "Through", comb, "many", through(t, y, comb, nil, many...), both(comb, all(comb)))
	is(t, "Together", comb, "many", together(t, y, comb, many...), "[] 191@1")
	is(t, "Step", comb, "many and one", step(t, y, comb, 1, append(many, -1)...), "[] [] 190@"+strconv.Itoa(len(many)))
	deep := chain(2000, i, r)
	is(t, "Step", deep, "all", step(t, y, deep, 1000, all(deep)...), both(chain(1999, i, r), all(deep)[:1999]))
}

// P19.3: a reduction that is written out: each beginning of it, and the places that have come of the redex r.
func TestReduction(t *testing.T) {
	q := asked{t, full(t)}
	text := "e(add(s(r),d(r)))"
	done := ""
	for _, c := range []struct{ move, want, first, second string }{ // what has come of the first r, and of the second one
		{"", text, "3", "5"},
		{"*:10", "p(add(s(r),d(r)),s(add(s(r),d(r))))", "3 9", "5 11"},
		{"0:3", "p(s(add(r,d(r))),s(add(s(r),d(r))))", "3 9", "5 11"},
		{"1.0.1:0", "p(s(add(r,d(r))),s(add(s(r),p(r,r))))", "3 9", "5 11 12"},
		{"0.0.0:1", "p(s(add(z,d(r))),s(add(s(r),p(r,r))))", "9", "5 11 12"},
		{"0.0:2", "p(s(d(r)),s(add(s(r),p(r,r))))", "7", "3 9 10"},
		{"1.0.1.0:1", "p(s(d(r)),s(add(s(r),p(z,r))))", "7", "3 10"},
		{"0.0:0", "p(s(p(r,r)),s(add(s(r),p(z,r))))", "8", "3 4 11"},
		{"1.0:3", "p(s(p(r,r)),s(s(add(r,p(z,r)))))", "8", "3 4 11"},
	} {
		if done != "" && c.move != "" {
			done += ", "
		}
		done += c.move
		q.goes(text, done, "3", c.want, c.first)
		q.goes(text, done, "5", c.want, c.second)
		places := append(list(t, c.first), list(t, c.second)...)
		slices.Sort(places)
		words := strings.Trim(numbers(places), "[]")
		q.goes(text, done, "5 3", c.want, words)
		back, _ := notation.PrintTerm(q.y.Sig(), read(t, q.y, c.want))
		if back != c.want {
			t.Errorf("%s, not %s", back, c.want)
		}
	}
}
