package residual_test

import (
	"math/rand"
	"slices"
	"strconv"
	"strings"
	"testing"

	"ropewalk/api"
	"ropewalk/notation"
	"ropewalk/residual"
	"ropewalk/system"
)

// The numbers of the symbols of declared: the first six as in the chapter, the others the tests' own; lacking is none of them.
const (
	z = iota
	s
	p
	d
	r
	add
	six
	k
	i
	loop
	f
	g
	e
	grow
	lacking
)

const declared = "con z/0, s/1, p/2; fun d/1, r/0, add/2; con six/6; fun k/2, i/1, loop/0, f/3, g/6, e/1, grow/0"

// The rules: 0 to 3 as in the chapter; 4 throws an argument away; 2, 4, 5 and 7 have variables as right sides; 6 goes on for ever; 7 to 9 look at several arguments, and beneath them; 9 turns some round, and has one within a symbol; 10 and 11 make terms longer; g has no rules.
const ruled = "d(X) -> p(X,X); r -> z; add(z,Y) -> Y; add(s(X),Y) -> s(add(X,Y)); k(X,Y) -> X; i(X) -> X; loop -> loop; " +
	"f(z,z,X) -> X; f(s(X),Y,z) -> f(X,Y,Y); f(p(X,s(Y)),Z,V) -> six(V,Y,Z,X,V,s(d(Z))); e(X) -> p(X,s(X)); grow -> s(z)"

// made is a system of these symbols, with rules that come in one call a text.
func made(t testing.TB, symbols string, rules ...string) *system.System {
	t.Helper()
	y := system.New()
	l, err := notation.Symbols(symbols)
	if err == nil {
		err = y.AddSymbols(l)
	}
	if err != nil {
		t.Fatalf("%s: %s", symbols, told(t, err))
	}
	for _, text := range rules {
		rule(t, y, text)
	}
	return y
}

func rule(t testing.TB, y *system.System, text string) {
	t.Helper()
	l, err := notation.Rules(y.Sig(), text)
	if err == nil {
		err = y.AddRules(l)
	}
	if err != nil {
		t.Fatalf("%s: %s", text, told(t, err))
	}
}

// full is the system of declared and ruled.
func full(t testing.TB) *system.System {
	t.Helper()
	return made(t, declared, ruled)
}

// read is a term that is written out.
func read(t testing.TB, y *system.System, text string) api.Term {
	t.Helper()
	x, err := notation.Term(y.Sig(), text)
	if err != nil {
		t.Fatalf("%s: %s", text, told(t, err))
	}
	return x
}

// movesOf are moves that are written out.
func movesOf(t testing.TB, text string) []api.Move {
	t.Helper()
	if text == "" {
		return nil
	}
	l, err := notation.Moves(text)
	if err != nil {
		t.Fatalf("%s: %s", text, told(t, err))
	}
	return l
}

// told is an error as the desk tells it: of each Fault its number, @ and its At, of an Errno at the end its number. What may not be is fatal.
func told(t testing.TB, err error) string {
	t.Helper()
	var words []string
	for depth := 0; err != nil; depth++ {
		if n, ok := err.(api.Errno); ok && depth > 0 {
			return strings.Join(append(words, strconv.Itoa(int(n))), " ")
		}
		x, ok := err.(*api.Fault)
		if !ok || x == nil {
			t.Fatalf("%v is neither a Fault nor, behind one, an Errno", err)
		}
		words = append(words, strconv.Itoa(int(x.Code))+"@"+strconv.Itoa(x.At))
		err = x.Why
	}
	return strings.Join(words, " ")
}

// numbers are those of a list as a text.
func numbers(l []int) string {
	var words []string
	for _, n := range l {
		words = append(words, strconv.Itoa(n))
	}
	return "[" + strings.Join(words, " ") + "]"
}

// both are a term and places as a text.
func both(u api.Term, l []int) string { return numbers(u) + " " + numbers(l) }

// The calls, whose answers are told as texts: all results, and the error.
func step(t testing.TB, y *system.System, l api.Term, at int, places ...int) string {
	t.Helper()
	u, to, err := residual.Step(y, l, at, places)
	return strings.TrimSpace(both(u, to) + " " + told(t, err))
}

func together(t testing.TB, y *system.System, l api.Term, places ...int) string {
	t.Helper()
	u, err := residual.Together(y, l, places)
	return strings.TrimSpace(numbers(u) + " " + told(t, err))
}

func through(t testing.TB, y *system.System, l api.Term, moves []api.Move, places ...int) string {
	t.Helper()
	u, to, err := residual.Through(y, l, moves, places)
	return strings.TrimSpace(both(u, to) + " " + told(t, err))
}

// plant is a term that is not laid out as a list. Its parts have labels, which they keep wherever they go: that is the tests' own way to say what descends from what.
type plant struct {
	number int
	label  int // -1: it came with a rule's right side
	kids   []plant
}

func (x plant) list() api.Term {
	t := api.Term{x.number}
	for _, y := range x.kids {
		t = append(t, y.list()...)
	}
	return t
}

// labels are those of its parts, by their places.
func (x plant) labels() []int {
	l := []int{x.label}
	for _, y := range x.kids {
		l = append(l, y.labels()...)
	}
	return l
}

// bearing are the places of the parts that bear some labels.
func (x plant) bearing(l []int) []int {
	var places []int
	for place, label := range x.labels() {
		if slices.Contains(l, label) {
			places = append(places, place)
		}
	}
	return places
}

func (x plant) size() int {
	size := 1
	for _, y := range x.kids {
		size += y.size()
	}
	return size
}

// sub is what stands at a place of it.
func (x plant) sub(place int) plant {
	if place == 0 {
		return x
	}
	place--
	for _, y := range x.kids {
		if place < y.size() {
			return y.sub(place)
		}
		place -= y.size()
	}
	panic("no such place")
}

// place is where a path leads; -1: nowhere.
func (x plant) place(path []int) int {
	place := 0
	for _, n := range path {
		if n < 0 || n >= len(x.kids) {
			return -1
		}
		place++
		for _, y := range x.kids[:n] {
			place += y.size()
		}
		x = x.kids[n]
	}
	return place
}

// with is the plant with another one at a place.
func (x plant) with(place int, other plant) plant {
	if place == 0 {
		return other
	}
	place--
	y := plant{number: x.number, label: x.label}
	for _, old := range x.kids {
		size := old.size()
		if place >= 0 && place < size {
			old = old.with(place, other)
		}
		place -= size
		y.kids = append(y.kids, old)
	}
	return y
}

// filled is the plant with others in the places of its variables; what it has beside them bears no label.
func (x plant) filled(stands map[int]plant) plant {
	if x.number < 0 {
		return stands[x.number]
	}
	y := plant{number: x.number, label: -1}
	for _, old := range x.kids {
		y.kids = append(y.kids, old.filled(stands))
	}
	return y
}

// isInstance tells whether it is one of a linear pattern, and notes what the pattern's variables stand for.
func (x plant) isInstance(pattern plant, stands map[int]plant) bool {
	if pattern.number < 0 {
		stands[pattern.number] = x
		return true
	}
	if x.number != pattern.number {
		return false
	}
	for n, y := range x.kids {
		if !y.isInstance(pattern.kids[n], stands) {
			return false
		}
	}
	return true
}

// lies tells whether a place lies in another one.
func lies(x plant, place, in int) bool { return in <= place && place < in+x.sub(in).size() }

// words is a system as the document's words have it.
type words struct {
	symbols []api.Symbol
	rules   []api.Rule
}

func wordsOf(y *system.System) words {
	var w words
	for _, x := range y.Sig().All() {
		w.symbols = append(w.symbols, x)
	}
	for _, x := range y.Rules().All() {
		w.rules = append(w.rules, x)
	}
	return w
}

// plantOf is what a list goes on with from a place on, how many numbers that takes, and whether the list does not end within it; its labels are its places.
func (w words) plantOf(l api.Term, place int) (plant, int, bool) {
	if place >= len(l) {
		return plant{}, 0, false
	}
	x, size := plant{number: l[place], label: place}, 1
	if l[place] < 0 {
		return x, size, true
	}
	for range w.symbols[l[place]].Arity {
		y, n, ok := w.plantOf(l, place+size)
		if !ok {
			return plant{}, 0, false
		}
		x.kids, size = append(x.kids, y), size+n
	}
	return x, size, true
}

// refusal is what P18.1 asks for, as told tells it, of a list that is no closed term; "" of one that is.
func (w words) refusal(l api.Term) string {
	if len(l) > 2000 {
		return "180@0 20"
	}
	for _, n := range l {
		if n >= len(w.symbols) {
			return "180@0 21"
		}
		if n < -99 {
			return "180@0 22"
		}
	}
	if _, n, ok := w.plantOf(l, 0); !ok || n < len(l) {
		return "180@0 23"
	}
	if slices.ContainsFunc(l, func(n int) bool { return n < 0 }) {
		return "180@0"
	}
	return ""
}

// whole is the plant of a list that is a term.
func (w words) whole(l api.Term) plant {
	x, _, _ := w.plantOf(l, 0)
	return x
}

// ruleAt is the rule that fits at a place, and what its variables stand for there.
func (w words) ruleAt(x plant, place int) (int, map[int]plant, bool) {
	for n, y := range w.rules {
		stands := map[int]plant{}
		if x.sub(place).isInstance(w.whole(y.Left), stands) {
			return n, stands, true
		}
	}
	return 0, nil, false
}

// contract does the rule that fits at a place.
func (w words) contract(x plant, place int) (plant, int, bool) {
	n, stands, fits := w.ruleAt(x, place)
	if !fits {
		return plant{}, 0, false
	}
	return x.with(place, w.whole(w.rules[n].Right).filled(stands)), n, true
}

func (w words) redexes(x plant) []api.Redex {
	var l []api.Redex
	for place := range x.size() {
		if n, _, fits := w.ruleAt(x, place); fits {
			l = append(l, api.Redex{Place: place, Rule: n})
		}
	}
	return l
}

// noPlace is the number of the first of some numbers that is no place, as told tells it; "": all are.
func noPlace(l api.Term, places []int) string {
	for n, place := range places {
		if place < 0 || place >= len(l) {
			return "190@" + strconv.Itoa(n)
		}
	}
	return ""
}

// step is what Step must tell of a list; together what Together must, through what Through must.
func (w words) step(l api.Term, at int, places []int) string {
	if no := w.refusal(l); no != "" {
		return "[] [] " + no
	}
	if at < 0 || at >= len(l) {
		return "[] [] 181@0"
	}
	x, _, fits := w.contract(w.whole(l), at)
	if !fits {
		return "[] [] 182@" + strconv.Itoa(at)
	}
	if x.size() > 2000 {
		return "[] [] 183@" + strconv.Itoa(at)
	}
	if no := noPlace(l, places); no != "" {
		return "[] [] " + no
	}
	return both(x.list(), x.bearing(places))
}

func (w words) together(l api.Term, places []int) string {
	if no := w.refusal(l); no != "" {
		return "[] " + no
	}
	if no := noPlace(l, places); no != "" {
		return "[] " + no
	}
	x := w.whole(l)
	for n, place := range places {
		if slices.ContainsFunc(places[:n], func(earlier int) bool { return lies(x, place, earlier) || lies(x, earlier, place) }) {
			return "[] 191@" + strconv.Itoa(n)
		}
	}
	for _, place := range places {
		if _, _, fits := w.ruleAt(x, place); !fits {
			return "[] 182@" + strconv.Itoa(place)
		}
	}
	sorted := slices.Sorted(slices.Values(places))
	for _, place := range slices.Backward(sorted) { // from the right: so the others stay where they are
		x, _, _ = w.contract(x, place)
	}
	if x.size() > 2000 {
		return "[] 183@0"
	}
	return numbers(x.list())
}

func (w words) through(l api.Term, moves []api.Move, places []int) string {
	if no := w.refusal(l); no != "" {
		return "[] [] " + no
	}
	if no := noPlace(l, places); no != "" {
		return "[] [] " + no
	}
	if len(moves) > 1000 {
		return "[] [] 1@0"
	}
	x := w.whole(l)
	for n, m := range moves {
		place := x.place(m.Path)
		if place < 0 {
			return "[] [] 181@" + strconv.Itoa(n)
		}
		y, rule, fits := w.contract(x, place)
		if !fits || rule != m.Rule {
			return "[] [] 182@" + strconv.Itoa(n)
		}
		if y.size() > 2000 {
			return "[] [] 183@" + strconv.Itoa(n)
		}
		x = y
	}
	return both(x.list(), x.bearing(places)) // the labels are still those of the first term
}

// is asks for one text.
func is(t testing.TB, call string, l api.Term, with any, got, want string) {
	t.Helper()
	if got != want {
		t.Errorf("%s of %.300s with %.300v: %.600s, not %.600s", call, numbers(l), with, got, want)
	}
}

// asks asks one call about a list for what the document's words say.
func (w words) asksStep(t testing.TB, y *system.System, l api.Term, at int, places ...int) string {
	t.Helper()
	got := step(t, y, l, at, places...)
	is(t, "Step", l, []any{at, places}, got, w.step(l, at, places))
	return got
}

func (w words) asksTogether(t testing.TB, y *system.System, l api.Term, places ...int) string {
	t.Helper()
	got := together(t, y, l, places...)
	is(t, "Together", l, places, got, w.together(l, places))
	return got
}

func (w words) asksThrough(t testing.TB, y *system.System, l api.Term, moves []api.Move, places ...int) string {
	t.Helper()
	got := through(t, y, l, moves, places...)
	is(t, "Through", l, []any{moves, places}, got, w.through(l, moves, places))
	return got
}

// around are all places of a list, and some that are none.
func around(l api.Term) []int {
	var places []int
	for place := -2; place < len(l)+2; place++ {
		places = append(places, place)
	}
	return places
}

// all are all places of a list.
func all(l api.Term) []int {
	places := make([]int, len(l))
	for place := range places {
		places[place] = place
	}
	return places
}

// everything is all that a system tells.
func everything(y *system.System) string {
	w := wordsOf(y)
	text := "version " + strconv.Itoa(y.Version())
	for _, x := range w.symbols {
		text += " " + x.Name + "/" + strconv.Itoa(x.Arity) + "/" + strconv.FormatBool(x.Defined)
	}
	for _, x := range w.rules {
		text += " " + numbers(x.Left) + "->" + numbers(x.Right)
	}
	return text
}

// someRule is one, over the symbols of a system, that it mostly takes.
func someRule(random *rand.Rand, l []api.Symbol) api.Rule {
	var roots []int
	for n, x := range l {
		if x.Defined {
			roots = append(roots, n)
		}
	}
	left := api.Term{roots[random.Intn(len(roots))]}
	next := 1 + random.Intn(60) // variables keep their numbers, whatever these are
	from := next
	for range l[left[0]].Arity {
		left = append(left, somePattern(random, l, 2, &next)...)
	}
	right := someTerm(random, l, 1+random.Intn(3))
	for n, symbol := range right {
		if l[symbol].Arity == 0 && next > from && random.Intn(2) == 0 {
			right[n] = -(from + random.Intn(next-from))
		}
	}
	if next > from && random.Intn(4) == 0 {
		right = api.Term{-(from + random.Intn(next-from))}
	}
	return api.Rule{Left: left, Right: right}
}

// somePattern has constructors and variables, each of which takes the next number.
func somePattern(random *rand.Rand, l []api.Symbol, depth int, next *int) api.Term {
	symbol := random.Intn(len(l))
	if depth == 0 || l[symbol].Defined {
		*next++
		return api.Term{1 - *next}
	}
	t := api.Term{symbol}
	for range l[symbol].Arity {
		t = append(t, somePattern(random, l, depth-1, next)...)
	}
	return t
}

// someTerm is closed, and of that depth at most; the first symbol has no argument.
func someTerm(random *rand.Rand, l []api.Symbol, depth int) api.Term {
	symbol := random.Intn(len(l))
	if depth <= 1 && l[symbol].Arity > 0 {
		symbol = 0
	}
	t := api.Term{symbol}
	for range l[symbol].Arity {
		t = append(t, someTerm(random, l, depth-1)...)
	}
	return t
}

// someScene is a system that a seed chooses, and a term in which some of its rules fit, likely within one another.
func someScene(t testing.TB, random *rand.Rand) (*system.System, api.Term) {
	t.Helper()
	y := made(t, "con a/0, b/1, c/2, q/3; fun m/0, n/1, o/2, u/2, v/3, w/6")
	symbols := wordsOf(y).symbols
	for range random.Intn(14) {
		y.AddRules([]api.Rule{someRule(random, symbols)})
	}
	w := wordsOf(y)
	x := w.whole(someTerm(random, symbols, 1+random.Intn(4)))
	for range random.Intn(4) {
		if len(w.rules) == 0 {
			break
		}
		left := w.whole(w.rules[random.Intn(len(w.rules))].Left)
		stands := map[int]plant{}
		for n := range 100 {
			stands[-n] = w.whole(someTerm(random, symbols, 1+random.Intn(3)))
			if random.Intn(3) == 0 {
				stands[-n] = x.sub(random.Intn(x.size()))
			}
		}
		x = x.with(random.Intn(x.size()), left.filled(stands))
	}
	return y, x.list()
}

// somePlaces are some of a term, in whatever order, now and then one twice.
func somePlaces(random *rand.Rand, l api.Term) []int {
	places := make([]int, random.Intn(6))
	for n := range places {
		places[n] = random.Intn(len(l))
	}
	return places
}

// someReduction is one of a term, of so many moves at most.
func (w words) someReduction(random *rand.Rand, x plant, most int) []api.Move {
	var moves []api.Move
	for range most {
		l := w.redexes(x)
		if len(l) == 0 || x.size() > 200 {
			break
		}
		one := l[random.Intn(len(l))]
		moves = append(moves, api.Move{Path: pathTo(x, one.Place), Rule: one.Rule})
		x, _, _ = w.contract(x, one.Place)
	}
	return moves
}

// pathTo is the path to a place.
func pathTo(x plant, place int) []int {
	if place == 0 {
		return nil
	}
	place--
	for n, y := range x.kids {
		if place < y.size() {
			return append([]int{n}, pathTo(y, place)...)
		}
		place -= y.size()
	}
	panic("no such place")
}
