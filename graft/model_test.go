package graft_test

import (
	"math"
	"math/rand"
	"slices"
	"strconv"
	"strings"
	"testing"

	"ropewalk/api"
	"ropewalk/graft"
	"ropewalk/heap"
	"ropewalk/sig"
)

// symbols: the first four as in the chapter, the others the tests' own.
func symbols() []api.Symbol {
	return []api.Symbol{
		{Name: "z"}, {Name: "s", Arity: 1}, {Name: "p", Arity: 2}, {Name: "d", Arity: 1, Defined: true},
		{Name: "r", Defined: true}, {Name: "f", Arity: 3, Defined: true}, {Name: "six", Arity: 6},
	}
}

// The numbers of the symbols; lacking is none of them.
const (
	z = iota
	s
	p
	d
	r
	f
	six
	lacking
)

func signature(t testing.TB) *sig.Sig {
	t.Helper()
	g := sig.New()
	for _, x := range symbols() {
		if _, e := g.Add(x); e != api.OK {
			t.Fatal(e)
		}
	}
	return g
}

// app is an application.
func app(symbol int, args ...int) api.Node { return api.Node{Symbol: symbol, Args: args} }

// marked is an application with a mark.
func marked(mark, symbol int, args ...int) api.Node {
	return api.Node{Symbol: symbol, Args: args, Mark: mark}
}

// ind is an indirection.
func ind(to int) api.Node { return api.Node{Points: true, To: to} }

// by is a part that is a symbol.
func by(symbol int) api.Part { return api.Part{Symbol: symbol} }

// at is a part that is what stands at a path.
func at(path ...int) api.Part { return api.Part{Symbol: -1, Path: path} }

// rights is code that has right sides alone.
func rights(l ...[]api.Part) api.Code { return api.Code{Rights: l} }

// side is a right side.
func side(l ...api.Part) []api.Part { return l }

// empty is a heap without nodes.
func empty(t testing.TB, room int) *heap.Heap {
	t.Helper()
	h, e := heap.New(room)
	if h == nil || e != api.OK {
		t.Fatalf("New(%d): %v", room, e)
	}
	return h
}

// refilled is a heap that has these nodes.
func refilled(t testing.TB, room int, l ...api.Node) *heap.Heap {
	t.Helper()
	h := empty(t, room)
	if e := h.Refill(l); e != api.OK {
		t.Fatalf("Refill: %v; of %s", e, shownList(l))
	}
	return h
}

// shown is a node as a text, all of its fields.
func shown(x api.Node) string {
	return "{" + strconv.Itoa(x.Symbol) + " " + numbers(x.Args) + "; " + strconv.Itoa(x.Mark) + " " + strconv.FormatBool(x.Points) + " " + strconv.Itoa(x.To) + "}"
}

func shownList(l []api.Node) string {
	var words []string
	for _, x := range l {
		words = append(words, shown(x))
	}
	return strings.Join(words, " ")
}

func shownSide(l []api.Part) string {
	var words []string
	for _, x := range l {
		words = append(words, strconv.Itoa(x.Symbol)+"["+numbers(x.Path)+"]")
	}
	return strings.Join(words, " ")
}

func numbers(l []int) string {
	var words []string
	for _, n := range l {
		words = append(words, strconv.Itoa(n))
	}
	return strings.Join(words, " ")
}

// nodesOf are a heap's nodes, by addresses.
func nodesOf(t testing.TB, h *heap.Heap) []api.Node {
	t.Helper()
	var l []api.Node
	for a, x := range h.All() {
		if a != len(l) {
			t.Fatalf("All: %d comes where %d should", a, len(l))
		}
		l = append(l, x)
	}
	if h.Used() != len(l) {
		t.Fatalf("Used is %d, but All tells %d nodes", h.Used(), len(l))
	}
	return l
}

// holds asks whether a heap has just these nodes, and that room.
func holds(t testing.TB, h *heap.Heap, room int, l ...api.Node) {
	t.Helper()
	if got := shownList(nodesOf(t, h)); got != shownList(l) || h.Room() != room {
		t.Errorf("room %d: %s, not %d: %s", h.Room(), got, room, shownList(l))
	}
}

// told is an error as the desk tells it: of each Fault its number, @ and its At, of an Errno at the end its number; an empty text of nil. What may not be is fatal.
func told(t testing.TB, err error) string {
	t.Helper()
	var words []string
	for depth := 0; err != nil; depth++ {
		if n, ok := err.(api.Errno); ok && depth > 0 {
			return strings.Join(append(words, strconv.Itoa(int(n))), " ")
		}
		x, ok := err.(*api.Fault)
		if !ok || x == nil {
			t.Fatalf("%v is neither a Fault nor, behind one, an Errno", err)
		}
		words = append(words, strconv.Itoa(int(x.Code))+"@"+strconv.Itoa(x.At))
		err = x.Why
	}
	return strings.Join(words, " ")
}

// loads asks Load, which must answer that address, and leave what was there with these nodes behind it.
func loads(t testing.TB, g *sig.Sig, h *heap.Heap, x api.Term, want int, more ...api.Node) {
	t.Helper()
	room, before := h.Room(), nodesOf(t, h)
	if a, err := graft.Load(g, h, x); a != want || err != nil {
		t.Errorf("Load of %v: %d, %s, not %d", x, a, told(t, err), want)
	}
	holds(t, h, room, slices.Concat(before, more)...)
}

// noLoad asks Load, which must be refused so, and change nothing.
func noLoad(t testing.TB, g *sig.Sig, h *heap.Heap, x api.Term, want string) {
	t.Helper()
	room, before := h.Room(), nodesOf(t, h)
	if a, err := graft.Load(g, h, x); a != 0 || told(t, err) != want {
		t.Errorf("Load of %v: %d, %s, not %s", x, a, told(t, err), want)
	}
	holds(t, h, room, before...)
}

// builds asks Build, which must answer that address, and leave what was there with these nodes behind it.
func builds(t testing.TB, g *sig.Sig, c api.Code, h *heap.Heap, rule, node, want int, more ...api.Node) {
	t.Helper()
	room, before := h.Room(), nodesOf(t, h)
	if a, err := graft.Build(g, c, h, rule, node); a != want || err != nil {
		t.Errorf("Build of the rule %d for %d: %d, %s, not %d", rule, node, a, told(t, err), want)
	}
	holds(t, h, room, slices.Concat(before, more)...)
}

// noBuild asks Build, which must be refused so, and change nothing.
func noBuild(t testing.TB, g *sig.Sig, c api.Code, h *heap.Heap, rule, node int, want string) {
	t.Helper()
	room, before := h.Room(), nodesOf(t, h)
	if a, err := graft.Build(g, c, h, rule, node); a != 0 || told(t, err) != want {
		t.Errorf("Build of the rule %d for %d: %d, %s, not %s", rule, node, a, told(t, err), want)
	}
	holds(t, h, room, before...)
}

// outside are numbers that are none of so many things from 0 on.
func outside(count int) []int {
	return []int{-1, -2, -4000, math.MinInt, count, count + 1, 4000, 4001, math.MaxInt}
}

// model is a heap's nodes, with a room; what it answers it works out by the chapter's words, without a stack.
type model struct {
	room  int
	nodes []api.Node
}

// is is the address of the application that a node is; -1, if there is no such node.
func (m model) is(a int) int {
	if a < 0 || a > len(m.nodes)-1 {
		return -1
	}
	if m.nodes[a].Points {
		return m.is(m.nodes[a].To)
	}
	return a
}

// leads is where a path leads from a node; -1: nowhere.
func (m model) leads(node int, path []int) int {
	a := m.is(node)
	if a < 0 || len(path) == 0 {
		return a
	}
	if args := m.nodes[a].Args; path[0] >= 0 && path[0] <= len(args)-1 {
		return m.leads(args[path[0]], path[1:])
	}
	return -1
}

// behind is the index behind the thing that begins at an index; -1, if the list ends within it. Each of arities is how many things stand behind one.
func behind(arities []int, i int) int {
	if i >= len(arities) {
		return -1
	}
	n := i + 1
	for range arities[i] {
		if n = behind(arities, n); n < 0 {
			return -1
		}
	}
	return n
}

// laid are the nodes behind what is there, and the answer, where a list is laid: of each thing its symbol, or -1 and where it is.
func (m model) laid(heads, places, arities []int) (int, []api.Node) {
	where := make([]int, len(heads))
	for i, n := range heads {
		where[i] = places[i]
		if n >= 0 {
			where[i] = len(m.nodes)
			for _, x := range heads[i+1:] {
				if x >= 0 {
					where[i]++
				}
			}
		}
	}
	var more []api.Node
	for i := len(heads) - 1; i >= 0; i-- {
		if heads[i] < 0 {
			continue
		}
		x := app(heads[i])
		n := i + 1
		for range arities[i] {
			x.Args = append(x.Args, where[n])
			n = behind(arities, n)
		}
		more = append(more, x)
	}
	return where[0], more
}

// load is what Load must answer, what is told of its error, and which nodes stand behind the others then.
func (m model) load(x api.Term) (int, string, []api.Node) {
	var arities []int
	isClosed := true
	for _, n := range x {
		if n > len(symbols())-1 {
			return 0, "130@0 21", nil
		}
		if n < -99 {
			return 0, "130@0 22", nil
		}
		if n < 0 {
			isClosed = false
			arities = append(arities, 0)
			continue
		}
		arities = append(arities, symbols()[n].Arity)
	}
	switch {
	case behind(arities, 0) != len(x):
		return 0, "130@0 23", nil
	case !isClosed:
		return 0, "130@0", nil
	case len(m.nodes)+len(x) > m.room:
		return 0, "131@0 111", nil
	}
	a, more := m.laid(x, make([]int, len(x)), arities)
	return a, "", more
}

// build is what Build must answer, likewise.
func (m model) build(c api.Code, rule, node int) (int, string, []api.Node) {
	if rule < 0 || rule > len(c.Rights)-1 {
		return 0, "132@0 91", nil
	}
	if m.is(node) < 0 {
		return 0, "132@0 112", nil
	}
	var heads, places, arities []int
	count := 0
	for i, x := range c.Rights[rule] {
		word := "132@" + strconv.Itoa(i)
		switch {
		case x.Symbol > len(symbols())-1:
			return 0, word + " 14", nil
		case x.Symbol >= 0:
			heads, places, arities = append(heads, x.Symbol), append(places, -1), append(arities, symbols()[x.Symbol].Arity)
			count++
		case x.Symbol == -1 && m.leads(node, x.Path) >= 0:
			heads, places, arities = append(heads, -1), append(places, m.leads(node, x.Path)), append(arities, 0)
		default:
			return 0, word, nil
		}
	}
	switch {
	case behind(arities, 0) != len(heads):
		return 0, "130@0", nil
	case len(m.nodes)+count > m.room:
		return 0, "131@0 111", nil
	}
	a, more := m.laid(heads, places, arities)
	return a, "", more
}

// term is the term of a node.
func (m model) term(a int) api.Term {
	x := m.nodes[m.is(a)]
	t := api.Term{x.Symbol}
	for _, b := range x.Args {
		t = append(t, m.term(b)...)
	}
	return t
}

// modelOf is a heap as it is.
func modelOf(t testing.TB, h *heap.Heap) model {
	t.Helper()
	return model{h.Room(), nodesOf(t, h)}
}

// agreesLoad does a Load, and asks for all that the chapter says of it: what is told of its error.
func agreesLoad(t testing.TB, g *sig.Sig, h *heap.Heap, x api.Term) string {
	t.Helper()
	a, word, more := modelOf(t, h).load(x)
	if word != "" {
		noLoad(t, g, h, x, word)
		return word
	}
	loads(t, g, h, x, a, more...)
	return ""
}

// agreesBuild does a Build, likewise.
func agreesBuild(t testing.TB, g *sig.Sig, c api.Code, h *heap.Heap, rule, node int) string {
	t.Helper()
	a, word, more := modelOf(t, h).build(c, rule, node)
	if word != "" {
		noBuild(t, g, c, h, rule, node, word)
	} else {
		builds(t, g, c, h, rule, node, a, more...)
	}
	if t.Failed() && rule >= 0 && rule < len(c.Rights) {
		t.Fatalf("the right side is %s; the nodes are %s", shownSide(c.Rights[rule]), shownList(nodesOf(t, h)))
	}
	return word
}

// someNodes is a list that a seed chooses: its nodes lead forwards and backwards, and each application has as many arguments as its symbol says.
func someNodes(random *rand.Rand, count int) []api.Node {
	order := random.Perm(count)
	l := make([]api.Node, count)
	for i, a := range order {
		l[a] = someNode(random, order[:i])
	}
	return l
}

// someNode leads to some of these addresses.
func someNode(random *rand.Rand, to []int) api.Node {
	if len(to) == 0 {
		return marked(random.Intn(3), []int{z, r}[random.Intn(2)])
	}
	if random.Intn(3) == 0 {
		return ind(to[random.Intn(len(to))])
	}
	symbol := random.Intn(lacking)
	x := marked(random.Intn(3), symbol)
	for range symbols()[symbol].Arity {
		x.Args = append(x.Args, to[random.Intn(len(to))])
	}
	return x
}

// someTerm is a closed term that a seed chooses, of that depth at most.
func someTerm(random *rand.Rand, depth int) api.Term {
	if depth <= 1 {
		return api.Term{[]int{z, r}[random.Intn(2)]}
	}
	symbol := random.Intn(six)
	t := api.Term{symbol}
	for range symbols()[symbol].Arity {
		t = append(t, someTerm(random, depth-1)...)
	}
	return t
}
