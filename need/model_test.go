package need_test

import (
	"math"
	"math/rand"
	"slices"
	"strconv"
	"strings"
	"testing"

	"ropewalk/api"
	"ropewalk/need"
	"ropewalk/notation"
	"ropewalk/system"
)

// The numbers of the symbols of declared: the first six as in the chapter, the others the tests' own; lacking is none of them.
const (
	z = iota
	s
	p
	d
	r
	add
	six
	k
	i
	loop
	f
	g
	e
	grow
	lacking
)

const declared = "con z/0, s/1, p/2; fun d/1, r/0, add/2; con six/6; fun k/2, i/1, loop/0, f/3, g/6, e/1, grow/0"

// The rules: 0 to 3 as in the chapter; 4 throws an argument away; 2, 4, 5 and 7 have variables as right sides; 6 goes on for ever; 7 to 9 look at several arguments, and beneath them; 10 and 11 make terms longer; g has no rules.
const ruled = "d(X) -> p(X,X); r -> z; add(z,Y) -> Y; add(s(X),Y) -> s(add(X,Y)); k(X,Y) -> X; i(X) -> X; loop -> loop; " +
	"f(z,z,X) -> X; f(s(X),Y,z) -> f(X,Y,Y); f(p(X,s(Y)),Z,V) -> six(X,Y,Z,V,X,s(d(Z))); e(X) -> p(X,s(X)); grow -> s(z)"

// made is a system of these symbols, with rules that come in one call a text.
func made(t testing.TB, symbols string, rules ...string) *system.System {
	t.Helper()
	y := system.New()
	l, err := notation.Symbols(symbols)
	if err == nil {
		err = y.AddSymbols(l)
	}
	if err != nil {
		t.Fatalf("%s: %s", symbols, told(t, err))
	}
	for _, text := range rules {
		rule(t, y, text)
	}
	return y
}

func rule(t testing.TB, y *system.System, text string) {
	t.Helper()
	l, err := notation.Rules(y.Sig(), text)
	if err == nil {
		err = y.AddRules(l)
	}
	if err != nil {
		t.Fatalf("%s: %s", text, told(t, err))
	}
}

// full is the system of declared and ruled.
func full(t testing.TB) *system.System {
	t.Helper()
	return made(t, declared, ruled)
}

// read is a term that is written out.
func read(t testing.TB, y *system.System, text string) api.Term {
	t.Helper()
	x, err := notation.Term(y.Sig(), text)
	if err != nil {
		t.Fatalf("%s: %s", text, told(t, err))
	}
	return x
}

// told is an error as the desk tells it: of each Fault its number, @ and its At, of an Errno at the end its number. What may not be is fatal.
func told(t testing.TB, err error) string {
	t.Helper()
	var words []string
	for depth := 0; err != nil; depth++ {
		if n, ok := err.(api.Errno); ok && depth > 0 {
			return strings.Join(append(words, strconv.Itoa(int(n))), " ")
		}
		x, ok := err.(*api.Fault)
		if !ok || x == nil {
			t.Fatalf("%v is neither a Fault nor, behind one, an Errno", err)
		}
		words = append(words, strconv.Itoa(int(x.Code))+"@"+strconv.Itoa(x.At))
		err = x.Why
	}
	return strings.Join(words, " ")
}

// numbers are those of a list as a text.
func numbers(l []int) string {
	var words []string
	for _, n := range l {
		words = append(words, strconv.Itoa(n))
	}
	return "[" + strings.Join(words, " ") + "]"
}

// shown is a redex as a text: place and rule.
func shown(x api.Redex) string { return strconv.Itoa(x.Place) + ":" + strconv.Itoa(x.Rule) }

// The calls, whose answers are told as texts: all results, and the error.
func rigid(t testing.TB, y *system.System, l api.Term, place int) string {
	t.Helper()
	is, err := need.Rigid(y, l, place)
	return strings.TrimSpace(strconv.FormatBool(is) + " " + told(t, err))
}

func find(t testing.TB, y *system.System, l api.Term) string {
	t.Helper()
	x, found, err := need.Find(y, l)
	return strings.TrimSpace(shown(x) + " " + strconv.FormatBool(found) + " " + told(t, err))
}

func reduce(t testing.TB, y *system.System, l api.Term, most int) string {
	t.Helper()
	u, n, isNormal, err := need.Reduce(y, l, most)
	return strings.TrimSpace(reduced(u, n, isNormal) + " " + told(t, err))
}

// reduced is what Reduce tells, as a text.
func reduced(u api.Term, n int, isNormal bool) string {
	return numbers(u) + " " + strconv.Itoa(n) + " " + strconv.FormatBool(isNormal)
}

// plant is a term that is not laid out as a list: the tests' own way to say what an instance is.
type plant struct {
	number int
	kids   []plant
}

func (x plant) list() api.Term {
	t := api.Term{x.number}
	for _, y := range x.kids {
		t = append(t, y.list()...)
	}
	return t
}

func (x plant) size() int {
	size := 1
	for _, y := range x.kids {
		size += y.size()
	}
	return size
}

// sub is what stands at a place of it.
func (x plant) sub(place int) plant {
	if place == 0 {
		return x
	}
	place--
	for _, y := range x.kids {
		if place < y.size() {
			return y.sub(place)
		}
		place -= y.size()
	}
	panic("no such place")
}

// with is the plant with another one at a place.
func (x plant) with(place int, other plant) plant {
	if place == 0 {
		return other
	}
	place--
	y := plant{number: x.number}
	for _, old := range x.kids {
		size := old.size()
		if place >= 0 && place < size {
			old = old.with(place, other)
		}
		place -= size
		y.kids = append(y.kids, old)
	}
	return y
}

// filled is the plant with others in the places of its variables.
func (x plant) filled(stands map[int]plant) plant {
	if x.number < 0 {
		return stands[x.number]
	}
	y := plant{number: x.number}
	for _, old := range x.kids {
		y.kids = append(y.kids, old.filled(stands))
	}
	return y
}

// isInstance tells whether it is one of a linear pattern, and notes what the pattern's variables stand for.
func (x plant) isInstance(pattern plant, stands map[int]plant) bool {
	if pattern.number < 0 {
		stands[pattern.number] = x
		return true
	}
	if x.number != pattern.number {
		return false
	}
	for n, y := range x.kids {
		if !y.isInstance(pattern.kids[n], stands) {
			return false
		}
	}
	return true
}

// words is a system as the document's words have it.
type words struct {
	symbols []api.Symbol
	rules   []api.Rule
	trees   []api.Case // by symbols: of constructors, none
}

func wordsOf(y *system.System) words {
	var w words
	for n, x := range y.Sig().All() {
		tree, _ := y.Tree(n)
		w.symbols, w.trees = append(w.symbols, x), append(w.trees, tree)
	}
	for _, x := range y.Rules().All() {
		w.rules = append(w.rules, x)
	}
	return w
}

// plantOf is what a list begins with, how many numbers that takes, and whether the list does not end within it.
func (w words) plantOf(l api.Term) (plant, int, bool) {
	if len(l) == 0 {
		return plant{}, 0, false
	}
	x, behind := plant{number: l[0]}, 1
	if l[0] < 0 {
		return x, behind, true
	}
	for range w.symbols[l[0]].Arity {
		y, n, ok := w.plantOf(l[behind:])
		if !ok {
			return plant{}, 0, false
		}
		x.kids, behind = append(x.kids, y), behind+n
	}
	return x, behind, true
}

// refusal is what P20.1 asks for, as told tells it, of a list that is no closed term; "" of one that is.
func (w words) refusal(l api.Term) string {
	if len(l) > 2000 {
		return "200@0 20"
	}
	for _, n := range l {
		if n >= len(w.symbols) {
			return "200@0 21"
		}
		if n < -99 {
			return "200@0 22"
		}
	}
	if _, n, ok := w.plantOf(l); !ok || n < len(l) {
		return "200@0 23"
	}
	if slices.ContainsFunc(l, func(n int) bool { return n < 0 }) {
		return "200@0"
	}
	return ""
}

// whole is the plant of a list that is a term.
func (w words) whole(l api.Term) plant {
	x, _, _ := w.plantOf(l)
	return x
}

// ruleAt is the rule that fits at a place, and what its variables stand for there.
func (w words) ruleAt(x plant, place int) (int, map[int]plant, bool) {
	for n, y := range w.rules {
		stands := map[int]plant{}
		if x.sub(place).isInstance(w.whole(y.Left), stands) {
			return n, stands, true
		}
	}
	return 0, nil, false
}

func (w words) redexes(x plant) []api.Redex {
	var l []api.Redex
	for place := range x.size() {
		if n, _, fits := w.ruleAt(x, place); fits {
			l = append(l, api.Redex{Place: place, Rule: n})
		}
	}
	return l
}

// way is where a path leads from the root of a plant: the place, and what stands there.
func (x plant) way(path []int) (int, plant) {
	place := 0
	for _, n := range path {
		place++
		for _, y := range x.kids[:n] {
			place += y.size()
		}
		x = x.kids[n]
	}
	return place, x
}

// walk is what a walk from the root of a plant comes to.
func (w words) walk(x plant) api.Found {
	if !w.symbols[x.number].Defined {
		return api.Found{Kind: api.Rigid}
	}
	tree := w.trees[x.number]
branch:
	for tree.Kind == api.Branch {
		place, y := x.way(tree.Path)
		for _, kid := range tree.Kids {
			if kid.Symbol == y.number {
				tree = kid.Case
				continue branch
			}
		}
		if w.isRigid(y) { // a constructor that the branch has not, or a defined symbol whose place is rigid
			return api.Found{Kind: api.Rigid}
		}
		return api.Found{Kind: api.Demand, Node: place}
	}
	if tree.Kind == api.Leaf {
		return api.Found{Kind: api.Fits, Rule: tree.Rule}
	}
	return api.Found{Kind: api.Rigid}
}

func (w words) isRigid(x plant) bool { return w.walk(x).Kind == api.Rigid }

// needed is the needed place of a plant, and the rule that fits there.
func (w words) needed(x plant) (api.Redex, bool) {
	switch found := w.walk(x); found.Kind {
	case api.Fits:
		return api.Redex{Rule: found.Rule}, true
	case api.Demand:
		y, ok := w.needed(x.sub(found.Node))
		y.Place += found.Node
		return y, ok
	}
	for n, kid := range x.kids {
		if y, ok := w.needed(kid); ok {
			place, _ := x.way([]int{n})
			y.Place += place
			return y, true
		}
	}
	return api.Redex{}, false
}

// contracted is a plant with the rule done that fits at a place.
func (w words) contracted(x plant, place int) plant {
	n, stands, fits := w.ruleAt(x, place)
	if !fits {
		panic("no rule fits there")
	}
	return x.with(place, w.whole(w.rules[n].Right).filled(stands))
}

// rigid, find and reduce are what the calls must tell of a term.
func (w words) rigid(x plant, place int) string {
	if place < 0 || place >= x.size() {
		return "false 181@0"
	}
	return strconv.FormatBool(w.isRigid(x.sub(place)))
}

func (w words) find(x plant) string {
	one, ok := w.needed(x)
	return shown(one) + " " + strconv.FormatBool(ok)
}

func (w words) reduce(x plant, most int) string {
	for n := 0; ; n++ {
		one, ok := w.needed(x)
		if !ok || n >= most || n == 1000 {
			return reduced(x.list(), n, !ok)
		}
		x = w.contracted(x, one.Place)
		if x.size() > 2000 {
			return "[] 0 false 183@" + strconv.Itoa(n)
		}
	}
}

// is asks for one text.
func is(t testing.TB, call string, l api.Term, with int, got, want string) {
	t.Helper()
	if got != want {
		t.Errorf("%s of %.300s, %d: %.300s, not %.300s", call, numbers(l), with, got, want)
	}
}

// refuses asks all calls for the same refusal, whatever numbers they are handed.
func refuses(t testing.TB, y *system.System, l api.Term, want string) {
	t.Helper()
	is(t, "Find", l, 0, find(t, y, l), "0:0 false "+want)
	for _, n := range []int{math.MinInt, -1, 0, 1, len(l) - 1, len(l), len(l) + 1, 1000, 1001, math.MaxInt} {
		is(t, "Rigid", l, n, rigid(t, y, l, n), "false "+want)
		is(t, "Reduce", l, n, reduce(t, y, l, n), "[] 0 false "+want)
	}
}

// agrees asks each call about a list for what the document's words say, Rigid at all places, Reduce by some numbers: whether it is a closed term.
func agrees(t testing.TB, y *system.System, w words, l api.Term, most ...int) bool {
	t.Helper()
	if no := w.refusal(l); no != "" {
		refuses(t, y, l, no)
		return false
	}
	x := w.whole(l)
	is(t, "Find", l, 0, find(t, y, l), w.find(x))
	for _, place := range around(l) {
		is(t, "Rigid", l, place, rigid(t, y, l, place), w.rigid(x, place))
	}
	for _, n := range most {
		is(t, "Reduce", l, n, reduce(t, y, l, n), w.reduce(x, n))
	}
	return true
}

// around are all places of a list, and some that are none.
func around(l api.Term) []int {
	var places []int
	for place := -2; place < len(l)+2; place++ {
		places = append(places, place)
	}
	return places
}

// everything is all that a system tells.
func everything(y *system.System) string {
	w := wordsOf(y)
	text := "version " + strconv.Itoa(y.Version())
	for _, x := range w.symbols {
		text += " " + x.Name + "/" + strconv.Itoa(x.Arity) + "/" + strconv.FormatBool(x.Defined)
	}
	for _, x := range w.rules {
		text += " " + numbers(x.Left) + "->" + numbers(x.Right)
	}
	return text
}

// someRule is one, over the symbols of a system, that it mostly takes.
func someRule(random *rand.Rand, l []api.Symbol) api.Rule {
	var roots []int
	for n, x := range l {
		if x.Defined {
			roots = append(roots, n)
		}
	}
	left := api.Term{roots[random.Intn(len(roots))]}
	next := 1 + random.Intn(60) // variables keep their numbers, whatever these are
	from := next
	for range l[left[0]].Arity {
		left = append(left, somePattern(random, l, 2, &next)...)
	}
	right := someTerm(random, l, 1+random.Intn(3))
	for n, symbol := range right {
		if l[symbol].Arity == 0 && next > from && random.Intn(2) == 0 {
			right[n] = -(from + random.Intn(next-from))
		}
	}
	if next > from && random.Intn(4) == 0 {
		right = api.Term{-(from + random.Intn(next-from))}
	}
	return api.Rule{Left: left, Right: right}
}

// somePattern has constructors and variables, each of which takes the next number.
func somePattern(random *rand.Rand, l []api.Symbol, depth int, next *int) api.Term {
	symbol := random.Intn(len(l))
	if depth == 0 || l[symbol].Defined {
		*next++
		return api.Term{1 - *next}
	}
	t := api.Term{symbol}
	for range l[symbol].Arity {
		t = append(t, somePattern(random, l, depth-1, next)...)
	}
	return t
}

// someTerm is closed, and of that depth at most; the first symbol has no argument.
func someTerm(random *rand.Rand, l []api.Symbol, depth int) api.Term {
	symbol := random.Intn(len(l))
	if depth <= 1 && l[symbol].Arity > 0 {
		symbol = 0
	}
	t := api.Term{symbol}
	for range l[symbol].Arity {
		t = append(t, someTerm(random, l, depth-1)...)
	}
	return t
}

// someScene is a system that a seed chooses, and a term in which some of its rules fit, likely within one another.
func someScene(t testing.TB, random *rand.Rand) (*system.System, api.Term) {
	t.Helper()
	y := made(t, "con a/0, b/1, c/2, q/3; fun m/0, n/1, o/2, u/2, v/3, w/6")
	symbols := wordsOf(y).symbols
	for range random.Intn(14) {
		y.AddRules([]api.Rule{someRule(random, symbols)})
	}
	w := wordsOf(y)
	x := w.whole(someTerm(random, symbols, 1+random.Intn(4)))
	for range random.Intn(7) {
		if len(w.rules) == 0 {
			break
		}
		left := w.whole(w.rules[random.Intn(len(w.rules))].Left)
		stands := map[int]plant{}
		for n := range 100 {
			stands[-n] = w.whole(someTerm(random, symbols, 1+random.Intn(3)))
			if random.Intn(3) == 0 {
				stands[-n] = x.sub(random.Intn(x.size()))
			}
		}
		x = x.with(random.Intn(x.size()), left.filled(stands))
	}
	return y, x.list()
}
