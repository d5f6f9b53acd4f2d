package trace_test

import (
	"math"
	"slices"
	"strconv"
	"strings"
	"testing"

	"ropewalk/api"
	"ropewalk/system"
)

// asked is a system, and a test that asks about terms that are written out.
type asked struct {
	t testing.TB
	y *system.System
}

// chapter is a system of the symbols and rules of the chapter's examples.
func chapter(t testing.TB) *system.System {
	t.Helper()
	return made(t, "con z/0, s/1, p/2; fun d/1, r/0, add/2", "d(X) -> p(X,X); r -> z; add(z,Y) -> Y; add(s(X),Y) -> s(add(X,Y))")
}

// comes asks Replay of a log of entries that are written out about a term that is: for another one, or for a refusal. The model of the tests must say the same.
func (q asked) comes(text, entries, want string) {
	q.t.Helper()
	l := read(q.t, q.y, text)
	if strings.Contains(want, "@") {
		want = "[] " + want
	} else {
		want = numbers(read(q.t, q.y, want))
	}
	given := firedOf(q.t, entries)
	is(q.t, "Replay", l, entries, replay(q.t, filled(q.t, 1000, given...), q.y, l), want)
	is(q.t, "Replay", l, entries, replay(q.t, filled(q.t, max(1, len(given)), given...), q.y, l), want) // just full
	is(q.t, "the model", l, entries, wordsOf(q.y).replay(l, given, 0), want)
}

// P17.2: the chapter's examples.
func TestReplayExamples(t *testing.T) {
	q := asked{t, chapter(t)}
	q.comes("d(r)", "*:0, 0:1", "p(z,z)")
	q.comes("d(z)", "*:0, 0:1", "170@1 182@1")
	q.comes("z", "*:0, 0:1", "170@0 182@0")
}

// P17.2: at first each place bears a label of its own: what stands alike in two places is contracted in one of them alone.
func TestFirstLabels(t *testing.T) {
	q := asked{t, full(t)}
	q.comes("d(r)", "", "d(r)")
	q.comes("z", "", "z")
	q.comes("r", "*:1", "z")
	q.comes("p(r,r)", "0:1", "p(z,r)")
	q.comes("p(r,r)", "1:1", "p(r,z)")
	q.comes("p(r,r)", "1:1, 0:1", "p(z,z)")
	q.comes("p(d(r),d(r))", "0:0, 0.1:1", "p(p(z,z),d(r))")
	q.comes("p(d(r),d(r))", "0:0, 1.0:1", "p(p(r,r),d(z))")
	q.comes("six(r,r,r,r,r,r)", "3:1, 5:1", "six(r,r,r,z,r,z)")
	q.comes("d(p(r,r))", "*:0, 0.0:1", "p(p(z,r),p(z,r))") // and copies of them bear two labels still
	q.comes("d(p(r,r))", "*:0, 1.0:1", "p(p(z,r),p(z,r))")
	q.comes("d(p(r,r))", "*:0, 1.1:1", "p(p(r,z),p(r,z))")
	q.comes("d(p(r,r))", "0.0:1, *:0, 0.1:1", "p(p(z,z),p(z,z))")
	q.comes("s(loop)", "0:6, 0:6, 0:6", "s(loop)")
}

// P17.2: what stands for a variable bears the labels that it bore, wherever it goes: in two places and more, in one, nowhere; beneath, above and beside what is contracted.
func TestLabelsThatStay(t *testing.T) {
	q := asked{t, full(t)}
	q.comes("d(r)", "*:0, 1:1", "p(z,z)")
	q.comes("d(r)", "0:1, *:0", "p(z,z)")
	q.comes("d(d(r))", "*:0, 0:0, 1.1:1", "p(p(z,z),p(z,z))")
	q.comes("d(d(r))", "*:0, 1:0", "p(p(r,r),p(r,r))")
	q.comes("d(d(r))", "*:0, 1.0:1", "p(d(z),d(z))")
	q.comes("d(d(r))", "*:0, 1.0:1, 0:0", "p(p(z,z),p(z,z))")
	q.comes("d(d(r))", "0:0, *:0, 1.0:1", "p(p(z,z),p(z,z))")
	q.comes("d(d(d(r)))", "*:0, 1:0, 0.1:0, 1.0.1:1", "p(p(p(z,z),p(z,z)),p(p(z,z),p(z,z)))")
	q.comes("six(r,d(d(r)),r,z,d(r),r)", "1:0, 1.1:0, 4:0, 1.0.0:1, 5:1", "six(r,p(p(z,z),p(z,z)),r,z,p(r,r),z)")
	q.comes("e(d(r))", "*:10, 1.0:0, 0.0:1", "p(p(z,z),s(p(z,z)))")
	q.comes("add(s(r),d(r))", "*:3, 0.0:1, 0.1:0, 0.1.1:1", "s(add(z,p(z,z)))")
	q.comes("f(s(r),d(r),z)", "*:8, 1:0, 2.0:1, 0:1", "f(z,p(z,z),p(z,z))")
	q.comes("f(p(d(r),s(i(z))),i(r),loop)", "*:9, 5.0.0:5, 3:0", "six(loop,i(z),r,p(r,r),loop,s(d(r)))")
	q.comes("f(p(d(r),s(i(z))),i(r),loop)", "*:9, 5.0.0:5, 3:0, 1:5, 0:6, 3.1:1", "six(loop,z,r,p(z,z),loop,s(d(r)))") // the other r came from elsewhere
	// Some of the places lie in what stands for a variable that is held twice there.
	q.comes("d(s(d(r)))", "*:0, 0.0:0, 0:1", "170@2 182@1")
	q.comes("d(s(d(r)))", "*:0, 0.0:0, 0.0.0:1", "p(s(p(z,z)),s(p(z,z)))")
	q.comes("d(e(d(r)))", "*:0, 1:10, 0.0:0, 1.1.0.0:1", "p(p(p(z,z),s(p(z,z))),p(p(z,z),s(p(z,z))))")
	// A place above, and one behind, bear what they bore.
	q.comes("d(s(r))", "*:0, 0.0:1, 1.0:1", "170@2 182@2")
	q.comes("d(p(r,loop))", "*:0, 1.0:1, 0.1:6", "p(p(z,loop),p(z,loop))")
	q.comes("d(d(p(grow,r)))", "*:0, 1.0.0:11, 0:0, 0.0.1:1", "p(p(p(s(z),z),p(s(z),z)),p(p(s(z),z),p(s(z),z)))")
}

// P17.2: what lies in what is thrown away bears its label elsewhere still.
func TestThrownAway(t *testing.T) {
	q := asked{t, full(t)}
	q.comes("k(z,r)", "*:4", "z")
	q.comes("k(r,r)", "*:4, *:1", "z")
	q.comes("n(r)", "*:13", "p(r,k(z,r))")
	q.comes("n(r)", "*:13, 0:1", "p(z,k(z,z))")
	q.comes("n(r)", "*:13, 1.1:1", "p(z,k(z,z))")
	q.comes("n(r)", "*:13, 1:4, 0:1", "p(z,z)")
	q.comes("n(r)", "*:13, 1.1:1, 1:4", "p(z,z)")
	q.comes("d(n(r))", "*:0, 0:13, 1.1:4, 0.0:1", "p(p(z,z),p(z,z))")
	q.comes("d(n(d(r)))", "0:13, *:0, 0.1.1:0, 1.1:4, 0.0.1:1", "p(p(p(z,z),z),p(p(z,z),z))")
	q.comes("p(n(d(r)),r)", "0:13, 0.0:0, 0.1:4, 1:1", "p(p(p(r,r),z),z)")
	q.comes("d(k(r,d(r)))", "*:0, 0:4, 1:1", "p(z,z)")
	q.comes("d(k(r,d(r)))", "*:0, 1.1:0, 0:4, 0:1", "p(z,z)")
	q.comes("d(k(r,d(r)))", "*:0, 1.1:0, 0:4, 0.0:1", "170@3") // the path leads nowhere now
}

// P17.2: where the right side is a variable, what stands for it bears its own label, not that of the place.
func TestVariableAlone(t *testing.T) {
	q := asked{t, full(t)}
	q.comes("i(r)", "*:5, *:1", "z")
	q.comes("d(i(r))", "*:0, 0:5", "p(r,r)")
	q.comes("d(i(r))", "*:0, 0:5, 1:1", "p(z,z)")
	q.comes("d(i(r))", "*:0, 1:5, 0:1", "p(z,z)")
	q.comes("m(r)", "*:12", "p(r,i(r))")
	q.comes("m(r)", "*:12, 1:5", "p(r,r)")
	q.comes("m(r)", "*:12, 1:5, 0:1", "p(z,z)") // both are the node that stood for the variable
	q.comes("m(r)", "*:12, 1:5, 1:1", "p(z,z)")
	q.comes("m(r)", "*:12, 0:1, 1:5", "p(z,z)")
	q.comes("m(d(r))", "*:12, 1:5, 1:0, 0.1:1", "p(p(z,z),p(z,z))")
	q.comes("p(i(r),r)", "0:5, 0:1", "p(z,r)")
	q.comes("d(m(i(r)))", "*:0, 0:12, 1.0:5, 0.1:5, 0.0:1", "p(p(z,z),p(z,z))")
	q.comes("add(z,i(i(r)))", "*:2, *:5, *:5, *:1", "z")
	q.comes("f(z,z,p(r,r))", "*:7, 1:1", "p(r,z)")
}

// P17.2: the symbols of a right side bear new labels: those of one place one and the same in all contracted places, those of two places two, and none that is borne elsewhere.
func TestNewLabels(t *testing.T) {
	q := asked{t, full(t)}
	q.comes("h", "*:14, 0:1", "p(z,r)")
	q.comes("h", "*:14, 1:1", "p(r,z)")
	q.comes("d(h)", "*:0, 0:14", "p(p(r,r),p(r,r))")
	q.comes("d(h)", "*:0, 0:14, 0.0:1", "p(p(z,r),p(z,r))")
	q.comes("d(h)", "*:0, 0:14, 1.0:1", "p(p(z,r),p(z,r))")
	q.comes("d(h)", "*:0, 0:14, 0.1:1", "p(p(r,z),p(r,z))")
	q.comes("d(h)", "*:0, 1:14, 0.1:1, 1.0:1", "p(p(z,z),p(z,z))")
	q.comes("p(h,h)", "0:14, 1:14, 0.0:1", "p(p(z,r),p(r,r))") // another time, other labels
	q.comes("p(h,h)", "0:14, 1:14, 1.1:1", "p(p(r,r),p(r,z))")
	q.comes("p(h,r)", "0:14, 1:1", "p(p(r,r),z)")
	q.comes("p(r,h)", "1:14, 1.0:1", "p(r,p(z,r))")
	q.comes("p(h,six(r,r,r,r,r,r))", "0:14, 0.0:1", "p(p(z,r),six(r,r,r,r,r,r))")
	q.comes("p(h,six(r,r,r,r,r,r))", "0:14, 0.1:1", "p(p(r,z),six(r,r,r,r,r,r))")
	q.comes("d(p(h,h))", "*:0, 0.0:14, 1.1:14, 0.1.0:1, 1.0.1:1", "p(p(p(r,z),p(z,r)),p(p(r,z),p(z,r)))")
	q.comes("d(loop)", "*:0, 1:6, 0:6", "p(loop,loop)")
	q.comes("d(add(s(z),r))", "*:0, 0:3, 1.0:2, 0.0:1", "p(s(z),s(z))")
	q.comes("d(add(s(s(z)),r))", "*:0, 1:3, 0.0:3, 1.0.0:2, 0.0.0:1", "p(s(s(z)),s(s(z)))")
	q.comes("d(f(p(r,s(z)),z,r))", "*:0, 0:9, 1.5.0:0, 0.3:1, 0.4:1", "p(six(z,z,z,z,z,s(p(z,z))),six(z,z,z,z,z,s(p(z,z))))")
	q.comes("e(h)", "*:10, 0:14, 1.0.0:1", "p(p(z,r),s(p(z,r)))")
	q.comes("d(d(h))", "*:0, 0:0, 1.1:14, 0.0.1:1", "p(p(p(r,z),p(r,z)),p(p(r,z),p(r,z)))")
}

// P17.2: a new label is unlike those of the term's places and those of all that came before, be they many: the entries alternate between two redexes that bring symbols.
func TestNewLabelsStayApart(t *testing.T) {
	q := asked{t, made(t, "con z/0, p/2; fun d/1, r/0, a/0, b/0", "d(X) -> p(X,X); r -> z; a -> p(b,b); b -> p(a,r)")}
	l := read(t, q.y, "p(d(a),a)")
	entries := firedOf(t, "0:0, 0.0:2, 1:2, 0.1.0:3, 1.0:3, 1.1:3, 0.0.1:3")
	q.comes("p(d(a),a)", "0:0, 0.0:2, 1:2, 0.1.0:3, 1.0:3, 1.1:3, 0.0.1:3", "p(p(p(p(a,r),p(a,r)),p(p(a,r),p(a,r))),p(p(a,r),p(a,r)))")
	q.comes("p(d(a),a)", "0:0, 0.0:2, 1:2, 0.1.0:3, 1.0:3, 1.1:3, 0.0.1:3, 0.1.1.1:1", "p(p(p(p(a,r),p(a,z)),p(p(a,r),p(a,z))),p(p(a,r),p(a,r)))")
	q.comes("p(d(a),a)", "0:0, 0.0:2, 1:2, 0.1.0:3, 1.0:3, 1.1:3, 0.0.1:3, 1.0.1:1", "p(p(p(p(a,r),p(a,r)),p(p(a,r),p(a,r))),p(p(a,z),p(a,r)))")
	w := wordsOf(q.y)
	for _, path := range [][]int{{0, 0, 0, 0}, {0, 0, 1, 0}, {0, 1, 0, 0}, {0, 1, 1, 0}, {1, 0, 0}, {1, 1, 0}} {
		for _, next := range [][]int{{0}, {1}} {
			more := []api.Fired{{Rule: 2, Path: path}, {Rule: 3, Path: append(slices.Clone(path), next...)}}
			w.asks(t, q.y, l, 1000, append(slices.Clone(entries), more...)...)
		}
	}
}

// P17.2: the symbol of the number 0 is one like the others: it may have arguments, on either side, and be a redex.
func TestSymbolZero(t *testing.T) {
	q := asked{t, made(t, "con s/1, z/0, p/2; fun h/2, r/0, d/1", "h(s(X),Y) -> p(s(Y),X); r -> z; d(X) -> p(X,X)")}
	q.comes("d(h(s(p(r,z)),r))", "*:2, 1:0, 0.1.0:1", "p(p(s(r),p(z,z)),p(s(r),p(z,z)))")
	q.comes("d(h(s(p(r,z)),r))", "*:2, 1:0, 1.0.0:1", "p(p(s(z),p(r,z)),p(s(z),p(r,z)))")
	q = asked{t, made(t, "fun d/1; con p/2, s/1; fun r/0; con z/0", "d(s(X)) -> p(X,d(X)); r -> s(r)")}
	q.comes("d(s(r))", "*:0, 1.0:1, 1:0, 0.0:1", "p(s(s(r)),p(s(r),d(s(r))))")
	q.comes("d(d(r))", "0.0:1, 0:0, 0.1.0:1, 0.1:0, 0.1.1.0:1", "d(p(s(s(r)),p(s(r),d(s(r)))))")
}

// P17.2: an entry at the root.
func TestAtTheRoot(t *testing.T) {
	q := asked{t, full(t)}
	q.comes("loop", "*:6, *:6", "loop")
	q.comes("grow", "*:11", "s(z)")
	q.comes("grow", "*:11, *:11", "170@1 182@0")
	q.comes("k(k(r,z),loop)", "*:4, *:4, *:1", "z")
	q.comes("d(d(z))", "*:0", "p(d(z),d(z))")
	q.comes("add(s(s(z)),r)", "*:3, *:3", "170@1 182@0")
	q.comes("f(s(s(z)),z,z)", "*:8, *:8, *:7", "z")
}

// P17.2: which entry is told, and why: its path leads nowhere; another rule fits there; none does.
func TestReplayRefuses(t *testing.T) {
	q := asked{t, full(t)}
	for _, c := range []struct{ text, entries, want string }{
		{"d(r)", "1:0", "170@0"},     // no such argument
		{"d(r)", "0.0:1", "170@0"},   // it goes on behind a symbol without arguments
		{"d(r)", "6:0", "170@0"},     // no symbol has so many
		{"d(r)", "0:0", "170@0"},     // another rule fits
		{"d(r)", "*:1", "170@0"},     //
		{"d(r)", "*:99999", "170@0"}, // there is no such rule
		{"d(z)", "0:1", "170@0 182@1"},
		{"d(z)", "0:0", "170@0 182@1"},
		{"d(z)", "0:99999", "170@0 182@1"},
		{"p(z,d(z))", "*:0", "170@0 182@0"},
		{"p(z,d(z))", "1.0:0", "170@0 182@3"},
		{"d(r)", "*:0, *:0", "170@1 182@0"},
		{"d(r)", "*:0, 2:1", "170@1"},
		{"d(r)", "*:0, 1:0", "170@1"},
		{"d(r)", "*:0, 0:1, 1:1", "170@2 182@1"}, // both were contracted; it is told at the first of them
		{"d(r)", "*:0, 0:1, 1:0", "170@2 182@1"},
		{"d(r)", "*:0, 1:1, 1.0:1", "170@2"},
		{"d(r)", "0:1, *:0, 1:1", "170@2 182@1"},
		{"p(r,d(s(z)))", "0:1, 1:0, 1.1:0", "170@2 182@3"},
		{"p(r,d(s(z)))", "0:1, 1:0, 1.1.0:0", "170@2 182@4"},
		{"six(z,r,d(d(s(r))),z,z,z)", "1:1, 2:0, 2.1:0, 2.0.1:4", "170@3 182@5"}, // of four places the first
		{"six(z,r,d(d(s(r))),z,z,z)", "1:1, 2:0, 2.1:0, 2.0.1.0:4", "170@3"},     // r, where another one fits
		{"d(r)", "*:0, 0:0, 0:1", "170@1"},                                       // the first that can't be done
		{"d(r)", "*:0, 9:0, 0:1", "170@1"},
		{"d(r)", "*:0, 0:1, 0:1, 9:1", "170@2 182@1"},
		{"add(add(p(z,z),z),z)", "0:2", "170@0 182@1"}, // it is rigid
	} {
		q.comes(c.text, c.entries, c.want)
	}
	y := q.y
	for _, entry := range []api.Fired{
		{Path: []int{-1}, Rule: 1},
		{Path: []int{0, math.MinInt}, Rule: 1},
		{Path: []int{math.MaxInt}},
		{Path: []int{math.MinInt}},
		{Path: []int{1}},
		{Path: slices.Repeat([]int{0}, 5000)},
		{Rule: -1},
		{Rule: math.MinInt},
		{Rule: math.MaxInt},
		{Rule: 15},
		{Path: []int{0}, Rule: math.MaxInt},
		{Path: []int{}, Rule: 15},
	} {
		is(t, "Replay", api.Term{d, r}, entry, replay(t, filled(t, 9, entry, api.Fired{Path: []int{9}}), y, api.Term{d, r}), "[] 170@0")
		l := read(t, y, "k(d(r),p(loop,loop))")
		entries := append(firedOf(t, "1.0:6, 1.1:6, *:4"), entry)
		is(t, "Replay", l, entry, replay(t, filled(t, 9, entries...), y, l), "[] 170@3")
	}
	for _, rule := range []int{math.MinInt, -1, 0, 1, 15, math.MaxInt} {
		is(t, "Replay", api.Term{s, z}, rule, replay(t, filled(t, 9, api.Fired{Rule: rule}), y, api.Term{s, z}), "[] 170@0 182@0")
	}
}

// P17.2: in a log from which the eldest entries are gone the others are done, and told by the numbers that they ever had.
func TestEldestAreGone(t *testing.T) {
	y := full(t)
	w := wordsOf(y)
	entries := firedOf(t, "*:0, 0:0, 0.0:1, 1.1:1")
	for _, c := range []struct {
		most       int
		text, want string
	}{
		{4, "d(d(p(r,r)))", "170@2 182@2"},
		{3, "p(d(r),r)", "170@3"},
		{3, "p(d(r),p(z,r))", "p(p(z,z),p(z,z))"},
		{2, "p(p(r,z),p(z,r))", "p(p(z,z),p(z,z))"},
		{2, "p(p(r,z),z)", "170@3"},
		{2, "p(d(r),d(r))", "170@3"},
		{2, "d(d(r))", "170@3"},
		{2, "d(d(z))", "170@2 182@2"},
		{1, "p(z,p(r,r))", "p(z,p(r,z))"},
		{1, "p(z,p(r,z))", "170@3 182@4"},
		{1, "z", "170@3"},
		{1, "six(r,p(r,d(r)),z,z,z,z)", "170@3"},
	} {
		l := read(t, y, c.text)
		if strings.Contains(c.want, "@") {
			c.want = "[] " + c.want
		} else {
			c.want = numbers(read(t, y, c.want))
		}
		is(t, "Replay", l, c.most, replay(t, filled(t, c.most, entries...), y, l), c.want)
		w.asks(t, y, l, c.most, entries...)
	}
	// Gone round many times.
	l := filled(t, 7)
	for range 100 {
		l.Add(api.Fired{Path: []int{7}}) // none of these can be done
	}
	for range 7 {
		is(t, "Replay", api.Term{s, loop}, "gone round", replay(t, l, y, api.Term{s, loop}), "[] 170@"+strconv.Itoa(lastOf(l.Len())-7))
		l.Add(api.Fired{Rule: 6, Path: []int{0}})
	}
	is(t, "Replay", api.Term{s, loop}, "gone round", replay(t, l, y, api.Term{s, loop}), "[1 9]")
	l.Add(api.Fired{Rule: 6, Path: []int{0, 0}})
	is(t, "Replay", api.Term{s, loop}, "gone round", replay(t, l, y, api.Term{s, loop}), "[] 170@107")
}

// lastOf is how many entries a log ever had.
func lastOf(_, ever int) int { return ever }

// chain is so many numbers: one symbol of one argument over and over, and another number last.
func chain(size, symbol, last int) api.Term {
	return append(slices.Repeat(api.Term{symbol}, size-1), last)
}

// numeral is a term of so many symbols, in normal form.
func numeral(size int) api.Term { return chain(size, s, z) }

var join = slices.Concat[api.Term]

// P17.2: a term of MaxTerm symbols may come of an entry, and one of one more may not; what is too long is what comes of all places; another rule is told ahead of it.
func TestLong(t *testing.T) {
	y := full(t)
	zeros := slices.Repeat([]int{0}, 2000)
	at := func(rule int, path ...int) api.Fired { return api.Fired{Rule: rule, Path: path} }
	grown := func(size int) api.Term { return chain(size, s, grow) }
	for _, c := range []struct {
		what    string
		l       api.Term
		entries []api.Fired
		want    string // "": u
		u       api.Term
	}{
		{"just so much", join(api.Term{e}, numeral(999)), []api.Fired{at(10)}, "", join(api.Term{p}, numeral(999), numeral(1000))},
		{"one more", join(api.Term{s, e}, numeral(999)), []api.Fired{at(10, 0)}, "170@0 183@0", nil},
		{"far more", join(api.Term{e}, numeral(1999)), []api.Fired{at(10)}, "170@0 183@0", nil},
		{"at the last symbol, just so much", grown(1999), []api.Fired{at(11, zeros[:1998]...)}, "", numeral(2000)},
		{"at the last symbol, one more", grown(2000), []api.Fired{at(11, zeros[:1999]...)}, "170@0 183@0", nil},
		{"so long all the time", chain(2000, s, loop), []api.Fired{at(6, zeros[:1999]...), at(6, zeros[:1999]...)}, "", chain(2000, s, loop)},
		{"shorter", join(chain(1999, s, i), api.Term{r}), []api.Fired{at(5, zeros[:1998]...), at(1, zeros[:1998]...)}, "", numeral(1999)},
		// Two places of one label: each alone could be contracted.
		{"both, just so much", join(api.Term{d}, grown(998)), []api.Fired{at(0), at(11, slices.Concat([]int{1}, zeros[:997])...)}, "", join(api.Term{p}, numeral(999), numeral(999))},
		{"both, one more", join(api.Term{s, d}, grown(998)), []api.Fired{at(0, 0), at(11, slices.Concat([]int{0, 1}, zeros[:997])...)}, "", join(api.Term{s, p}, numeral(999), numeral(999))},
		{"both, too much", join(api.Term{s, s, d}, grown(998)), []api.Fired{at(0, 0, 0), at(11, slices.Concat([]int{0, 0, 1}, zeros[:997])...)}, "170@1 183@0", nil},
		{"both, too much, by another rule", join(api.Term{s, s, d}, grown(998)), []api.Fired{at(0, 0, 0), at(1, slices.Concat([]int{0, 0, 1}, zeros[:997])...)}, "170@1", nil},
		{"both, too much, by no rule", join(api.Term{s, s, d}, grown(998)), []api.Fired{at(0, 0, 0), at(11, slices.Concat([]int{0, 0, 1}, zeros[:996])...)}, "170@1 182@" + strconv.Itoa(2+1+996), nil},
		{"two redexes of two labels", join(api.Term{s, p}, grown(998), grown(998)), []api.Fired{at(11, slices.Concat([]int{0, 1}, zeros[:997])...)}, "", join(api.Term{s, p}, grown(998), numeral(999))},
		{"another rule, and too much", join(api.Term{s, e}, numeral(999)), []api.Fired{at(0, 0)}, "170@0", nil},
		{"no path, and too much", join(api.Term{s, e}, numeral(999)), []api.Fired{at(10, 1)}, "170@0", nil},
		{"too much behind others", join(api.Term{p, loop, d, d}, numeral(998)), []api.Fired{at(6, 0), at(0, 1, 0), at(0, 1), at(9, 9)}, "170@2 183@0", nil},
		{"long ahead of what throws away", join(api.Term{k, z, d}, numeral(1500)), []api.Fired{at(0, 1), at(4)}, "170@0 183@0", nil},
	} {
		if len(c.l) > 2000 {
			t.Fatalf("%s: %d symbols", c.what, len(c.l))
		}
		want := "[] " + c.want
		if c.want == "" {
			want = numbers(c.u)
			if len(c.u) > 2000 {
				t.Fatalf("%s: to %d symbols", c.what, len(c.u))
			}
		}
		l := filled(t, 9, c.entries...)
		if got := replay(t, l, y, c.l); got != want {
			t.Errorf("%s: Replay of %d symbols: %.80s, not %.80s", c.what, len(c.l), got, want)
		}
		if got := wordsOf(y).replay(c.l, c.entries, 0); got != want {
			t.Errorf("%s: the model: %.80s, not %.80s", c.what, got, want)
		}
	}
}

// P17.2: MaxVariables variables, and a side of MaxSide numbers that holds one of them 100 times, and throws another away.
func TestGreatSides(t *testing.T) {
	y := made(t, "con z/0, s/1, p/2, six/6; fun b/2, r/0, h/1")
	many := append(slices.Repeat(api.Term{2, -5}, 99), 1, -5)
	var down, up []api.Term
	for n := 1; n <= 99; n++ {
		down, up = append([]api.Term{{-n}}, down...), append(up, api.Term{-n})
	}
	if err := y.AddRules([]api.Rule{
		{Left: api.Term{4, -5, -99}, Right: many},
		{Left: api.Term{5}, Right: api.Term{0}},
		{Left: append(api.Term{6}, row(down)...), Right: row(up)},
	}); err != nil {
		t.Fatal(told(t, err))
	}
	w := wordsOf(y)
	l := api.Term{1, 4, 2, 5, 5, 5}
	w.asks(t, y, l, 9, firedOf(t, "0:0")...)
	w.asks(t, y, l, 9, firedOf(t, "0:0, 0.1.1.0.1:1")...)
	got := w.asks(t, y, l, 9, firedOf(t, "0.1:1, 0:0, 0.1.1.0.1:1, 0.0.0:1")...)
	if strings.Contains(got, "5") || strings.Count(got, "2") != 99+100 {
		t.Errorf("%s", got)
	}
	// One redex for each variable, in no order: each is contracted, and no other one.
	terms := make([]api.Term, 99)
	for n := range terms {
		terms[n] = api.Term{4, 0, 5}
	}
	l = append(api.Term{6}, row(terms)...)
	entries := []api.Fired{{Rule: 2}}
	var path []int
	for n := range 99 {
		entries = append(entries, api.Fired{Rule: 1, Path: append(slices.Clone(path), n%5, 1)})
		if n%5 == 4 {
			path = append(path, 5)
		}
		if n%13 == 0 {
			w.asks(t, y, l, 1000, entries...)
		}
	}
	if got := w.asks(t, y, l, 1000, entries...); strings.Contains(got, " 5 ") || strings.Contains(got, "@") {
		t.Errorf("%s", got)
	}
}

// row is five parts, and a row of the others as the sixth one, and so on, in symbols of six arguments; 0 where none is left.
func row(parts []api.Term) api.Term {
	t := api.Term{3}
	for n := range 5 {
		if n < len(parts) {
			t = append(t, parts[n]...)
		} else {
			t = append(t, 0)
		}
	}
	if len(parts) > 5 {
		return append(t, row(parts[5:])...)
	}
	return append(t, 0)
}

// P17.2: MaxTrace entries, terms of many symbols, a label that hundreds of places bear: in time.
func TestGreat(t *testing.T) {
	y := full(t)
	l := filled(t, 1000)
	var path []int
	for range 9 {
		l.Add(api.Fired{Rule: 0, Path: path})
		path = append(path, 1)
	}
	for range 991 {
		l.Add(api.Fired{Rule: 6, Path: path})
	}
	var tree func(depth int) api.Term
	tree = func(depth int) api.Term {
		if depth == 0 {
			return api.Term{loop}
		}
		return join(api.Term{p}, tree(depth-1), tree(depth-1))
	}
	is(t, "Replay", nil, "a tree", replay(t, l, y, chain(10, d, loop)), numbers(tree(9)))
	// A comb of redexes, each with a label of its own.
	comb := append(slices.Repeat(api.Term{p, r}, 999), z)
	l, path = filled(t, 1000), nil
	for range 999 {
		l.Add(api.Fired{Rule: 1, Path: append(slices.Clone(path), 0)})
		path = append(path, 1)
	}
	is(t, "Replay", comb, "a comb", replay(t, l, y, comb), numbers(append(slices.Repeat(api.Term{p, z}, 999), z)))
	l.Add(api.Fired{Rule: 1, Path: path})
	is(t, "Replay", comb, "a comb, and one more", replay(t, l, y, comb), "[] 170@999 182@1998")
	l.Add(api.Fired{Rule: 1, Path: path}) // the eldest one is gone
	is(t, "Replay", comb, "a comb, and two more", replay(t, l, y, comb), "[] 170@999 182@1998")
}
