package rewrite_test

import (
	"math/rand"
	"slices"
	"strconv"
	"strings"
	"testing"

	"ropewalk/api"
	"ropewalk/notation"
	"ropewalk/rewrite"
	"ropewalk/system"
)

// The numbers of the symbols of declared: the first six as in the chapter, the others the tests' own; lacking is none of them.
const (
	z = iota
	s
	p
	d
	r
	add
	six
	k
	i
	loop
	f
	g
	e
	grow
	lacking
)

const declared = "con z/0, s/1, p/2; fun d/1, r/0, add/2; con six/6; fun k/2, i/1, loop/0, f/3, g/6, e/1, grow/0"

// The rules: 0 to 3 as in the chapter; 4 throws an argument away; 2, 4, 5 and 7 have variables as right sides; 6 goes on for ever; 7 to 9 look at several arguments, and beneath them; 10 and 11 make terms longer; g has no rules.
const ruled = "d(X) -> p(X,X); r -> z; add(z,Y) -> Y; add(s(X),Y) -> s(add(X,Y)); k(X,Y) -> X; i(X) -> X; loop -> loop; " +
	"f(z,z,X) -> X; f(s(X),Y,z) -> f(X,Y,Y); f(p(X,s(Y)),Z,V) -> six(X,Y,Z,V,X,s(d(Z))); e(X) -> p(X,s(X)); grow -> s(z)"

// made is a system of these symbols, with rules that come in one call a text.
func made(t testing.TB, symbols string, rules ...string) *system.System {
	t.Helper()
	y := system.New()
	l, err := notation.Symbols(symbols)
	if err == nil {
		err = y.AddSymbols(l)
	}
	if err != nil {
		t.Fatalf("%s: %s", symbols, told(t, err))
	}
	for _, text := range rules {
		rule(t, y, text)
	}
	return y
}

func rule(t testing.TB, y *system.System, text string) {
	t.Helper()
	l, err := notation.Rules(y.Sig(), text)
	if err == nil {
		err = y.AddRules(l)
	}
	if err != nil {
		t.Fatalf("%s: %s", text, told(t, err))
	}
}

// full is the system of declared and ruled.
func full(t testing.TB) *system.System {
	t.Helper()
	return made(t, declared, ruled)
}

// read is a term that is written out.
func read(t testing.TB, y *system.System, text string) api.Term {
	t.Helper()
	x, err := notation.Term(y.Sig(), text)
	if err != nil {
		t.Fatalf("%s: %s", text, told(t, err))
	}
	return x
}

// told is an error as the desk tells it: of each Fault its number, @ and its At, of an Errno at the end its number. What may not be is fatal.
func told(t testing.TB, err error) string {
	t.Helper()
	var words []string
	for depth := 0; err != nil; depth++ {
		if n, ok := err.(api.Errno); ok && depth > 0 {
			return strings.Join(append(words, strconv.Itoa(int(n))), " ")
		}
		x, ok := err.(*api.Fault)
		if !ok || x == nil {
			t.Fatalf("%v is neither a Fault nor, behind one, an Errno", err)
		}
		words = append(words, strconv.Itoa(int(x.Code))+"@"+strconv.Itoa(x.At))
		err = x.Why
	}
	return strings.Join(words, " ")
}

// numbers are those of a list as a text.
func numbers(l []int) string {
	var words []string
	for _, n := range l {
		words = append(words, strconv.Itoa(n))
	}
	return "[" + strings.Join(words, " ") + "]"
}

// shown are redexes as a text: place and rule of each.
func shown(l ...api.Redex) string {
	var words []string
	for _, x := range l {
		words = append(words, strconv.Itoa(x.Place)+":"+strconv.Itoa(x.Rule))
	}
	return strings.Join(words, " ")
}

// maybe is the text of what was found, or of nothing.
func maybe(text string, found bool) string { return text + " " + strconv.FormatBool(found) }

// The calls, whose answers are told as texts: all results, and the error.
func at(t testing.TB, y *system.System, l api.Term, place int) string {
	t.Helper()
	n, fits, err := rewrite.At(y, l, place)
	return strings.TrimSpace(maybe(strconv.Itoa(n), fits) + " " + told(t, err))
}

func contract(t testing.TB, y *system.System, l api.Term, place int) string {
	t.Helper()
	u, n, err := rewrite.Contract(y, l, place)
	return strings.TrimSpace(numbers(u) + " " + strconv.Itoa(n) + " " + told(t, err))
}

func redexes(t testing.TB, y *system.System, l api.Term) string {
	t.Helper()
	found, err := rewrite.Redexes(y, l)
	return strings.TrimSpace(shown(found...) + " " + told(t, err))
}

func normal(t testing.TB, y *system.System, l api.Term) string {
	t.Helper()
	is, err := rewrite.Normal(y, l)
	return strings.TrimSpace(strconv.FormatBool(is) + " " + told(t, err))
}

func outer(t testing.TB, y *system.System, l api.Term) string {
	t.Helper()
	x, found, err := rewrite.Outer(y, l)
	return strings.TrimSpace(maybe(shown(x), found) + " " + told(t, err))
}

func inner(t testing.TB, y *system.System, l api.Term) string {
	t.Helper()
	x, found, err := rewrite.Inner(y, l)
	return strings.TrimSpace(maybe(shown(x), found) + " " + told(t, err))
}

// plant is a term that is not laid out as a list: the tests' own way to say what an instance is.
type plant struct {
	number int
	kids   []plant
}

func (x plant) list() api.Term {
	t := api.Term{x.number}
	for _, y := range x.kids {
		t = append(t, y.list()...)
	}
	return t
}

func (x plant) size() int {
	size := 1
	for _, y := range x.kids {
		size += y.size()
	}
	return size
}

// sub is what stands at a place of it.
func (x plant) sub(place int) plant {
	if place == 0 {
		return x
	}
	place--
	for _, y := range x.kids {
		if place < y.size() {
			return y.sub(place)
		}
		place -= y.size()
	}
	panic("no such place")
}

// with is the plant with another one at a place.
func (x plant) with(place int, other plant) plant {
	if place == 0 {
		return other
	}
	place--
	y := plant{number: x.number}
	for _, old := range x.kids {
		size := old.size()
		if place >= 0 && place < size {
			old = old.with(place, other)
		}
		place -= size
		y.kids = append(y.kids, old)
	}
	return y
}

// filled is the plant with others in the places of its variables.
func (x plant) filled(stands map[int]plant) plant {
	if x.number < 0 {
		return stands[x.number]
	}
	y := plant{number: x.number}
	for _, old := range x.kids {
		y.kids = append(y.kids, old.filled(stands))
	}
	return y
}

// isInstance tells whether it is one of a linear pattern, and notes what the pattern's variables stand for.
func (x plant) isInstance(pattern plant, stands map[int]plant) bool {
	if pattern.number < 0 {
		stands[pattern.number] = x
		return true
	}
	if x.number != pattern.number {
		return false
	}
	for n, y := range x.kids {
		if !y.isInstance(pattern.kids[n], stands) {
			return false
		}
	}
	return true
}

// words is a system as the document's words have it.
type words struct {
	symbols []api.Symbol
	rules   []api.Rule
}

func wordsOf(y *system.System) words {
	var w words
	for _, x := range y.Sig().All() {
		w.symbols = append(w.symbols, x)
	}
	for _, x := range y.Rules().All() {
		w.rules = append(w.rules, x)
	}
	return w
}

// plantOf is what a list begins with, how many numbers that takes, and whether the list does not end within it.
func (w words) plantOf(l api.Term) (plant, int, bool) {
	if len(l) == 0 {
		return plant{}, 0, false
	}
	x, behind := plant{number: l[0]}, 1
	if l[0] < 0 {
		return x, behind, true
	}
	for range w.symbols[l[0]].Arity {
		y, n, ok := w.plantOf(l[behind:])
		if !ok {
			return plant{}, 0, false
		}
		x.kids, behind = append(x.kids, y), behind+n
	}
	return x, behind, true
}

// refusal is what P18.1 asks for, as told tells it, of a list that is no closed term; "" of one that is.
func (w words) refusal(l api.Term) string {
	if len(l) > 2000 {
		return "180@0 20"
	}
	for _, n := range l {
		if n >= len(w.symbols) {
			return "180@0 21"
		}
		if n < -99 {
			return "180@0 22"
		}
	}
	if _, n, ok := w.plantOf(l); !ok || n < len(l) {
		return "180@0 23"
	}
	if slices.ContainsFunc(l, func(n int) bool { return n < 0 }) {
		return "180@0"
	}
	return ""
}

// whole is the plant of a list that is a term.
func (w words) whole(l api.Term) plant {
	x, _, _ := w.plantOf(l)
	return x
}

// ruleAt is the rule that fits at a place, and what its variables stand for there.
func (w words) ruleAt(x plant, place int) (int, map[int]plant, bool) {
	for n, y := range w.rules {
		stands := map[int]plant{}
		if x.sub(place).isInstance(w.whole(y.Left), stands) {
			return n, stands, true
		}
	}
	return 0, nil, false
}

func (w words) redexes(x plant) []api.Redex {
	var l []api.Redex
	for place := range x.size() {
		if n, _, fits := w.ruleAt(x, place); fits {
			l = append(l, api.Redex{Place: place, Rule: n})
		}
	}
	return l
}

// lies tells whether a place lies in another one.
func lies(x plant, place, in int) bool { return in <= place && place < in+x.sub(in).size() }

// outer is the first of some redexes that lies in no other one.
func (w words) outer(x plant, l []api.Redex) (api.Redex, bool) {
	for _, one := range l {
		if !slices.ContainsFunc(l, func(other api.Redex) bool { return other != one && lies(x, one.Place, other.Place) }) {
			return one, true
		}
	}
	return api.Redex{}, false
}

// inner is the first of some redexes in which no other one lies.
func (w words) inner(x plant, l []api.Redex) (api.Redex, bool) {
	for _, one := range l {
		if !slices.ContainsFunc(l, func(other api.Redex) bool { return other != one && lies(x, other.Place, one.Place) }) {
			return one, true
		}
	}
	return api.Redex{}, false
}

// at is what At must tell of a term; contract what Contract must.
func (w words) at(x plant, place int) string {
	if place < 0 || place >= x.size() {
		return "0 false 181@0"
	}
	n, _, fits := w.ruleAt(x, place)
	return maybe(strconv.Itoa(n), fits)
}

func (w words) contract(x plant, place int) string {
	if place < 0 || place >= x.size() {
		return "[] 0 181@0"
	}
	n, stands, fits := w.ruleAt(x, place)
	if !fits {
		return "[] 0 182@" + strconv.Itoa(place)
	}
	y := x.with(place, w.whole(w.rules[n].Right).filled(stands))
	if y.size() > 2000 {
		return "[] 0 183@" + strconv.Itoa(place)
	}
	return numbers(y.list()) + " " + strconv.Itoa(n)
}

// is asks for one text.
func is(t testing.TB, call string, l api.Term, got, want string) {
	t.Helper()
	if got != want {
		t.Errorf("%s of %s: %s, not %s", call, numbers(l), got, want)
	}
}

// agrees asks each call about a list, at some places, for what the document's words say: how many redexes it has; -1, if it is no closed term.
func agrees(t testing.TB, y *system.System, l api.Term, places ...int) int {
	t.Helper()
	w := wordsOf(y)
	if no := w.refusal(l); no != "" {
		is(t, "Redexes", l, redexes(t, y, l), no)
		is(t, "Normal", l, normal(t, y, l), "false "+no)
		is(t, "Outer", l, outer(t, y, l), "0:0 false "+no)
		is(t, "Inner", l, inner(t, y, l), "0:0 false "+no)
		for _, place := range places {
			is(t, "At", l, at(t, y, l, place), "0 false "+no)
			is(t, "Contract", l, contract(t, y, l, place), "[] 0 "+no)
		}
		return -1
	}
	x := w.whole(l)
	found := w.redexes(x)
	is(t, "Redexes", l, redexes(t, y, l), shown(found...))
	is(t, "Normal", l, normal(t, y, l), strconv.FormatBool(len(found) == 0))
	one, ok := w.outer(x, found)
	is(t, "Outer", l, outer(t, y, l), maybe(shown(one), ok))
	one, ok = w.inner(x, found)
	is(t, "Inner", l, inner(t, y, l), maybe(shown(one), ok))
	for _, place := range places {
		is(t, "At", l, at(t, y, l, place), w.at(x, place))
		is(t, "Contract", l, contract(t, y, l, place), w.contract(x, place))
	}
	return len(found)
}

// around are all places of a list, and some that are none.
func around(l api.Term) []int {
	var places []int
	for place := -2; place < len(l)+2; place++ {
		places = append(places, place)
	}
	return places
}

// everything is all that a system tells.
func everything(y *system.System) string {
	w := wordsOf(y)
	text := "version " + strconv.Itoa(y.Version())
	for _, x := range w.symbols {
		text += " " + x.Name + "/" + strconv.Itoa(x.Arity) + "/" + strconv.FormatBool(x.Defined)
	}
	for _, x := range w.rules {
		text += " " + numbers(x.Left) + "->" + numbers(x.Right)
	}
	return text
}

// someRule is one, over the symbols of a system, that it mostly takes.
func someRule(random *rand.Rand, l []api.Symbol) api.Rule {
	var roots []int
	for n, x := range l {
		if x.Defined {
			roots = append(roots, n)
		}
	}
	left := api.Term{roots[random.Intn(len(roots))]}
	next := 1 + random.Intn(60) // variables keep their numbers, whatever these are
	from := next
	for range l[left[0]].Arity {
		left = append(left, somePattern(random, l, 2, &next)...)
	}
	right := someTerm(random, l, 1+random.Intn(3))
	for n, symbol := range right {
		if l[symbol].Arity == 0 && next > from && random.Intn(2) == 0 {
			right[n] = -(from + random.Intn(next-from))
		}
	}
	if next > from && random.Intn(4) == 0 {
		right = api.Term{-(from + random.Intn(next-from))}
	}
	return api.Rule{Left: left, Right: right}
}

// somePattern has constructors and variables, each of which takes the next number.
func somePattern(random *rand.Rand, l []api.Symbol, depth int, next *int) api.Term {
	symbol := random.Intn(len(l))
	if depth == 0 || l[symbol].Defined {
		*next++
		return api.Term{1 - *next}
	}
	t := api.Term{symbol}
	for range l[symbol].Arity {
		t = append(t, somePattern(random, l, depth-1, next)...)
	}
	return t
}

// someTerm is closed, and of that depth at most; the first symbol has no argument.
func someTerm(random *rand.Rand, l []api.Symbol, depth int) api.Term {
	symbol := random.Intn(len(l))
	if depth <= 1 && l[symbol].Arity > 0 {
		symbol = 0
	}
	t := api.Term{symbol}
	for range l[symbol].Arity {
		t = append(t, someTerm(random, l, depth-1)...)
	}
	return t
}

// someScene is a system that a seed chooses, and a term in which some of its rules fit, likely within one another.
func someScene(t testing.TB, random *rand.Rand) (*system.System, api.Term) {
	t.Helper()
	y := made(t, "con a/0, b/1, c/2, q/3; fun m/0, n/1, o/2, u/2, v/3, w/6")
	symbols := wordsOf(y).symbols
	for range random.Intn(14) {
		y.AddRules([]api.Rule{someRule(random, symbols)})
	}
	w := wordsOf(y)
	x := w.whole(someTerm(random, symbols, 1+random.Intn(4)))
	for range random.Intn(4) {
		if len(w.rules) == 0 {
			break
		}
		left := w.whole(w.rules[random.Intn(len(w.rules))].Left)
		stands := map[int]plant{}
		for n := range 100 {
			stands[-n] = w.whole(someTerm(random, symbols, 1+random.Intn(3)))
			if random.Intn(3) == 0 {
				stands[-n] = x.sub(random.Intn(x.size()))
			}
		}
		x = x.with(random.Intn(x.size()), left.filled(stands))
	}
	return y, x.list()
}
