package trace_test

import (
	"math/rand"
	"slices"
	"strconv"
	"strings"
	"testing"

	"ropewalk/api"
	"ropewalk/notation"
	"ropewalk/system"
	"ropewalk/trace"
)

// The numbers of the symbols of declared: the first six as in the chapter, the others the tests' own; lacking is none of them.
const (
	z = iota
	s
	p
	d
	r
	add
	six
	k
	i
	loop
	f
	g
	e
	grow
	m
	n
	h
	lacking
)

const declared = "con z/0, s/1, p/2; fun d/1, r/0, add/2; con six/6; fun k/2, i/1, loop/0, f/3, g/6, e/1, grow/0, m/1, n/1, h/0"

// The rules: 0 to 3 as in the chapter; 4 throws an argument away; 2, 4, 5 and 7 have variables as right sides; 6 goes on for ever; 7 to 9 look at several arguments, and beneath them; 10 and 11 make terms longer; 12 and 13 hold twice what lies in another redex, too, which 13 throws away there; 14 brings one symbol twice; g has no rules.
const ruled = "d(X) -> p(X,X); r -> z; add(z,Y) -> Y; add(s(X),Y) -> s(add(X,Y)); k(X,Y) -> X; i(X) -> X; loop -> loop; " +
	"f(z,z,X) -> X; f(s(X),Y,z) -> f(X,Y,Y); f(p(X,s(Y)),Z,V) -> six(V,Y,Z,X,V,s(d(Z))); e(X) -> p(X,s(X)); grow -> s(z); " +
	"m(X) -> p(X,i(X)); n(X) -> p(X,k(z,X)); h -> p(r,r)"

// made is a system of these symbols, with rules that come in one call a text.
func made(t testing.TB, symbols string, rules ...string) *system.System {
	t.Helper()
	y := system.New()
	l, err := notation.Symbols(symbols)
	if err == nil {
		err = y.AddSymbols(l)
	}
	if err != nil {
		t.Fatalf("%s: %s", symbols, told(t, err))
	}
	for _, text := range rules {
		rule(t, y, text)
	}
	return y
}

func rule(t testing.TB, y *system.System, text string) {
	t.Helper()
	l, err := notation.Rules(y.Sig(), text)
	if err == nil {
		err = y.AddRules(l)
	}
	if err != nil {
		t.Fatalf("%s: %s", text, told(t, err))
	}
}

// full is the system of declared and ruled.
func full(t testing.TB) *system.System {
	t.Helper()
	return made(t, declared, ruled)
}

// read is a term that is written out.
func read(t testing.TB, y *system.System, text string) api.Term {
	t.Helper()
	x, err := notation.Term(y.Sig(), text)
	if err != nil {
		t.Fatalf("%s: %s", text, told(t, err))
	}
	return x
}

// told is an error as the desk tells it: of each Fault its number, @ and its At, of an Errno at the end its number. What may not be is fatal.
func told(t testing.TB, err error) string {
	t.Helper()
	var words []string
	for depth := 0; err != nil; depth++ {
		if n, ok := err.(api.Errno); ok && depth > 0 {
			return strings.Join(append(words, strconv.Itoa(int(n))), " ")
		}
		x, ok := err.(*api.Fault)
		if !ok || x == nil {
			t.Fatalf("%v is neither a Fault nor, behind one, an Errno", err)
		}
		words = append(words, strconv.Itoa(int(x.Code))+"@"+strconv.Itoa(x.At))
		err = x.Why
	}
	return strings.Join(words, " ")
}

// numbers are those of a list as a text.
func numbers(l []int) string {
	var words []string
	for _, n := range l {
		words = append(words, strconv.Itoa(n))
	}
	return "[" + strings.Join(words, " ") + "]"
}

// firedOf are entries that are written out.
func firedOf(t testing.TB, text string) []api.Fired {
	t.Helper()
	if text == "" {
		return nil
	}
	moves, err := notation.Moves(text)
	if err != nil {
		t.Fatalf("%s: %s", text, told(t, err))
	}
	l := make([]api.Fired, len(moves))
	for n, x := range moves {
		l[n] = api.Fired{Rule: x.Rule, Path: x.Path}
	}
	return l
}

// shown are entries as a text.
func shown(l []api.Fired) string {
	var words []string
	for _, x := range l {
		words = append(words, strconv.Itoa(x.Rule)+numbers(x.Path))
	}
	return strings.Join(words, " ")
}

// empty is a log for so many entries.
func empty(t testing.TB, most int) *trace.Log {
	t.Helper()
	l, e := trace.New(most)
	if l == nil || e != api.OK {
		t.Fatalf("New(%d): %v, %v", most, l, e)
	}
	return l
}

// filled is a log for so many entries, to which some were added.
func filled(t testing.TB, most int, entries ...api.Fired) *trace.Log {
	t.Helper()
	l := empty(t, most)
	for _, x := range entries {
		l.Add(x)
	}
	return l
}

// whole is all that a log tells.
func whole(l *trace.Log) string {
	has, ever := l.Len()
	words := []string{strconv.Itoa(has), "of", strconv.Itoa(ever) + ":"}
	for number, x := range l.All() {
		words = append(words, strconv.Itoa(number)+":", shown([]api.Fired{x}))
	}
	return strings.Join(words, " ")
}

// wholeOf is what a log for so many entries must tell, to which these were added.
func wholeOf(most int, entries []api.Fired) string {
	first := max(0, len(entries)-most)
	words := []string{strconv.Itoa(len(entries) - first), "of", strconv.Itoa(len(entries)) + ":"}
	for number, x := range entries[first:] {
		words = append(words, strconv.Itoa(first+number)+":", shown([]api.Fired{x}))
	}
	return strings.Join(words, " ")
}

// replay is what Replay answers, told as a text.
func replay(t testing.TB, l *trace.Log, y *system.System, x api.Term) string {
	t.Helper()
	u, err := l.Replay(y, x)
	return strings.TrimSpace(numbers(u) + " " + told(t, err))
}

// plant is a term that is not laid out as a list. Its parts have labels.
type plant struct {
	number int
	label  int
	kids   []plant
}

func (x plant) list() api.Term {
	t := api.Term{x.number}
	for _, y := range x.kids {
		t = append(t, y.list()...)
	}
	return t
}

// labels are those of its parts, by their places.
func (x plant) labels() []int {
	l := []int{x.label}
	for _, y := range x.kids {
		l = append(l, y.labels()...)
	}
	return l
}

// bearing are the places of the parts that bear a label.
func (x plant) bearing(label int) []int {
	var places []int
	for place, other := range x.labels() {
		if other == label {
			places = append(places, place)
		}
	}
	return places
}

func (x plant) size() int {
	size := 1
	for _, y := range x.kids {
		size += y.size()
	}
	return size
}

// sub is what stands at a place of it.
func (x plant) sub(place int) plant {
	if place == 0 {
		return x
	}
	place--
	for _, y := range x.kids {
		if place < y.size() {
			return y.sub(place)
		}
		place -= y.size()
	}
	panic("no such place")
}

// place is where a path leads; -1: nowhere.
func (x plant) place(path []int) int {
	place := 0
	for _, n := range path {
		if n < 0 || n >= len(x.kids) {
			return -1
		}
		place++
		for _, y := range x.kids[:n] {
			place += y.size()
		}
		x = x.kids[n]
	}
	return place
}

// with is the plant with another one at a place.
func (x plant) with(place int, other plant) plant {
	if place == 0 {
		return other
	}
	place--
	y := plant{number: x.number, label: x.label}
	for _, old := range x.kids {
		size := old.size()
		if place >= 0 && place < size {
			old = old.with(place, other)
		}
		place -= size
		y.kids = append(y.kids, old)
	}
	return y
}

// filled is the plant with others, labels and all, in the places of its variables; the labels of what it has beside them are put up by a number.
func (x plant) filled(stands map[int]plant, up int) plant {
	if x.number < 0 {
		return stands[x.number]
	}
	y := plant{number: x.number, label: x.label + up}
	for _, old := range x.kids {
		y.kids = append(y.kids, old.filled(stands, up))
	}
	return y
}

// isInstance tells whether it is one of a linear pattern, and notes what the pattern's variables stand for.
func (x plant) isInstance(pattern plant, stands map[int]plant) bool {
	if pattern.number < 0 {
		stands[pattern.number] = x
		return true
	}
	if x.number != pattern.number {
		return false
	}
	for n, y := range x.kids {
		if !y.isInstance(pattern.kids[n], stands) {
			return false
		}
	}
	return true
}

// words is a system as the document's words have it.
type words struct {
	symbols []api.Symbol
	rules   []api.Rule
}

func wordsOf(y *system.System) words {
	var w words
	for _, x := range y.Sig().All() {
		w.symbols = append(w.symbols, x)
	}
	for _, x := range y.Rules().All() {
		w.rules = append(w.rules, x)
	}
	return w
}

// plantOf is what a list goes on with from a place on, how many numbers that takes, and whether the list does not end within it; its labels are its places.
func (w words) plantOf(l api.Term, place int) (plant, int, bool) {
	if place >= len(l) {
		return plant{}, 0, false
	}
	x, size := plant{number: l[place], label: place}, 1
	if l[place] < 0 {
		return x, size, true
	}
	for range w.symbols[l[place]].Arity {
		y, n, ok := w.plantOf(l, place+size)
		if !ok {
			return plant{}, 0, false
		}
		x.kids, size = append(x.kids, y), size+n
	}
	return x, size, true
}

// refusal is what P18.1 asks for, as told tells it, of a list that is no closed term; "" of one that is.
func (w words) refusal(l api.Term) string {
	if len(l) > 2000 {
		return "180@0 20"
	}
	for _, n := range l {
		if n >= len(w.symbols) {
			return "180@0 21"
		}
		if n < -99 {
			return "180@0 22"
		}
	}
	if _, n, ok := w.plantOf(l, 0); !ok || n < len(l) {
		return "180@0 23"
	}
	if slices.ContainsFunc(l, func(n int) bool { return n < 0 }) {
		return "180@0"
	}
	return ""
}

// whole is the plant of a list that is a term.
func (w words) whole(l api.Term) plant {
	x, _, _ := w.plantOf(l, 0)
	return x
}

// ruleAt is the rule that fits at a place, and what its variables stand for there.
func (w words) ruleAt(x plant, place int) (int, map[int]plant, bool) {
	for n, y := range w.rules {
		stands := map[int]plant{}
		if x.sub(place).isInstance(w.whole(y.Left), stands) {
			return n, stands, true
		}
	}
	return 0, nil, false
}

func (w words) redexes(x plant) []api.Redex {
	var l []api.Redex
	for place := range x.size() {
		if n, _, fits := w.ruleAt(x, place); fits {
			l = append(l, api.Redex{Place: place, Rule: n})
		}
	}
	return l
}

// done is a plant with a rule done wherever a label is borne; the labels that come with it are new from a number on.
func (w words) done(x plant, label, rule, next int) plant {
	if x.label == label {
		stands := map[int]plant{}
		x.isInstance(w.whole(w.rules[rule].Left), stands)
		return w.whole(w.rules[rule].Right).filled(stands, next)
	}
	y := plant{number: x.number, label: x.label}
	for _, old := range x.kids {
		y.kids = append(y.kids, w.done(old, label, rule, next))
	}
	return y
}

// entry does an entry on a plant, whose labels are all below a number: what comes of it, or what is told of it behind its number.
func (w words) entry(x plant, f api.Fired, next int) (plant, string, bool) {
	place := x.place(f.Path)
	if place < 0 {
		return plant{}, "", false
	}
	if n, _, fits := w.ruleAt(x, place); fits && n != f.Rule {
		return plant{}, "", false
	}
	label := x.sub(place).label
	for _, other := range x.bearing(label) {
		if _, _, fits := w.ruleAt(x, other); !fits {
			return plant{}, " 182@" + strconv.Itoa(other), false
		}
	}
	y := w.done(x, label, f.Rule, next)
	if y.size() > 2000 {
		return plant{}, " 183@0", false
	}
	return y, "", true
}

// replay is what Replay must tell of a log that has these entries, the first of which has that number.
func (w words) replay(l api.Term, entries []api.Fired, first int) string {
	if no := w.refusal(l); no != "" {
		return "[] " + no
	}
	x, next := w.whole(l), len(l)
	for n, f := range entries {
		y, why, ok := w.entry(x, f, next)
		if !ok {
			return "[] 170@" + strconv.Itoa(first+n) + why
		}
		x, next = y, next+len(w.rules[f.Rule].Right)
	}
	return numbers(x.list())
}

// is asks for one text.
func is(t testing.TB, call string, l api.Term, with any, got, want string) {
	t.Helper()
	if got != want {
		t.Errorf("%s of %.300s with %.300v: %.600s, not %.600s", call, numbers(l), with, got, want)
	}
}

// asks asks Replay of a log that has room for so many of these entries for what the document's words say.
func (w words) asks(t testing.TB, y *system.System, l api.Term, most int, entries ...api.Fired) string {
	t.Helper()
	got := replay(t, filled(t, most, entries...), y, l)
	first := max(0, len(entries)-most)
	is(t, "Replay", l, shown(entries[first:]), got, w.replay(l, entries[first:], first))
	return got
}

// everything is all that a system tells.
func everything(y *system.System) string {
	w := wordsOf(y)
	text := "version " + strconv.Itoa(y.Version())
	for _, x := range w.symbols {
		text += " " + x.Name + "/" + strconv.Itoa(x.Arity) + "/" + strconv.FormatBool(x.Defined)
	}
	for _, x := range w.rules {
		text += " " + numbers(x.Left) + "->" + numbers(x.Right)
	}
	return text
}

// someRule is one, over the symbols of a system, that it mostly takes.
func someRule(random *rand.Rand, l []api.Symbol) api.Rule {
	var roots []int
	for n, x := range l {
		if x.Defined {
			roots = append(roots, n)
		}
	}
	left := api.Term{roots[random.Intn(len(roots))]}
	next := 1 + random.Intn(60) // variables keep their numbers, whatever these are
	from := next
	for range l[left[0]].Arity {
		left = append(left, somePattern(random, l, 2, &next)...)
	}
	right := someTerm(random, l, 1+random.Intn(3))
	for n, symbol := range right {
		if l[symbol].Arity == 0 && next > from && random.Intn(2) == 0 {
			right[n] = -(from + random.Intn(next-from))
		}
	}
	if next > from && random.Intn(4) == 0 {
		right = api.Term{-(from + random.Intn(next-from))}
	}
	return api.Rule{Left: left, Right: right}
}

// somePattern has constructors and variables, each of which takes the next number.
func somePattern(random *rand.Rand, l []api.Symbol, depth int, next *int) api.Term {
	symbol := random.Intn(len(l))
	if depth == 0 || l[symbol].Defined {
		*next++
		return api.Term{1 - *next}
	}
	t := api.Term{symbol}
	for range l[symbol].Arity {
		t = append(t, somePattern(random, l, depth-1, next)...)
	}
	return t
}

// someTerm is closed, and of that depth at most; the first symbol has no argument.
func someTerm(random *rand.Rand, l []api.Symbol, depth int) api.Term {
	symbol := random.Intn(len(l))
	if depth <= 1 && l[symbol].Arity > 0 {
		symbol = 0
	}
	t := api.Term{symbol}
	for range l[symbol].Arity {
		t = append(t, someTerm(random, l, depth-1)...)
	}
	return t
}

// someScene is a system that a seed chooses, and a term in which some of its rules fit, likely within one another.
func someScene(t testing.TB, random *rand.Rand) (*system.System, api.Term) {
	t.Helper()
	y := made(t, "con a/0, b/1, c/2, q/3; fun m/0, n/1, o/2, u/2, v/3, w/6")
	symbols := wordsOf(y).symbols
	for range random.Intn(14) {
		y.AddRules([]api.Rule{someRule(random, symbols)})
	}
	w := wordsOf(y)
	x := w.whole(someTerm(random, symbols, 1+random.Intn(4)))
	for range random.Intn(4) {
		if len(w.rules) == 0 {
			break
		}
		left := w.whole(w.rules[random.Intn(len(w.rules))].Left)
		stands := map[int]plant{}
		for n := range 100 {
			stands[-n] = w.whole(someTerm(random, symbols, 1+random.Intn(3)))
			if random.Intn(3) == 0 {
				stands[-n] = x.sub(random.Intn(x.size()))
			}
		}
		x = x.with(random.Intn(x.size()), left.filled(stands, 0))
	}
	return y, x.list()
}

// someSharing is a system and a term that a seed chooses; every second one such that much comes to stand in several places.
func someSharing(t testing.TB, random *rand.Rand) (*system.System, api.Term) {
	t.Helper()
	if random.Intn(2) == 0 {
		return someScene(t, random)
	}
	y := full(t)
	symbols := wordsOf(y).symbols
	l := someTerm(random, symbols, 1+random.Intn(3))
	for range 1 + random.Intn(4) {
		switch root := []int{d, d, e, m, n, i, s, p, k, add}[random.Intn(10)]; symbols[root].Arity {
		case 1:
			l = append(api.Term{root}, l...)
		default:
			l = slices.Concat(api.Term{root}, l, someTerm(random, symbols, 2))
		}
	}
	return y, l
}

// someEntries are such as can be done on a term, so many at most, at places that a seed chooses.
func (w words) someEntries(random *rand.Rand, l api.Term, most int) []api.Fired {
	var entries []api.Fired
	x, next := w.whole(l), len(l)
	for range most {
		redexes := w.redexes(x)
		if len(redexes) == 0 {
			break
		}
		one := redexes[random.Intn(len(redexes))]
		entry := api.Fired{Rule: one.Rule, Path: pathTo(x, one.Place)}
		y := w.done(x, x.sub(one.Place).label, one.Rule, next)
		if y.size() > 200 {
			break
		}
		entries = append(entries, entry)
		x, next = y, next+len(w.rules[one.Rule].Right)
	}
	return entries
}

// pathTo is the path to a place.
func pathTo(x plant, place int) []int {
	if place == 0 {
		return nil
	}
	place--
	for n, y := range x.kids {
		if place < y.size() {
			return append([]int{n}, pathTo(y, place)...)
		}
		place -= y.size()
	}
	panic("no such place")
}
