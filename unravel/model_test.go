package unravel_test

import (
	"math"
	"math/rand"
	"slices"
	"strconv"
	"strings"
	"testing"

	"ropewalk/api"
	"ropewalk/heap"
	"ropewalk/sig"
	"ropewalk/unravel"
)

// symbols: the first three as in the chapter, the others the tests' own.
func symbols() []api.Symbol {
	return []api.Symbol{
		{Name: "z"}, {Name: "s", Arity: 1}, {Name: "p", Arity: 2}, {Name: "d", Arity: 1, Defined: true},
		{Name: "r", Defined: true}, {Name: "f", Arity: 3, Defined: true}, {Name: "six", Arity: 6},
	}
}

// The numbers of the symbols; lacking is none of them.
const (
	z = iota
	s
	p
	d
	r
	f
	six
	lacking
)

func signature(t testing.TB) *sig.Sig {
	t.Helper()
	return signatureOf(t, symbols()...)
}

func signatureOf(t testing.TB, l ...api.Symbol) *sig.Sig {
	t.Helper()
	g := sig.New()
	for _, x := range l {
		if _, e := g.Add(x); e != api.OK {
			t.Fatal(e)
		}
	}
	return g
}

// app is an application.
func app(symbol int, args ...int) api.Node { return api.Node{Symbol: symbol, Args: args} }

// marked is an application with a mark.
func marked(mark, symbol int, args ...int) api.Node {
	return api.Node{Symbol: symbol, Args: args, Mark: mark}
}

// ind is an indirection.
func ind(to int) api.Node { return api.Node{Points: true, To: to} }

// filled is a heap that has these nodes, and room for some more.
func filled(t testing.TB, l ...api.Node) *heap.Heap {
	t.Helper()
	h, e := heap.New(min(len(l)+3, api.MaxRoom))
	if e != api.OK {
		t.Fatal(e)
	}
	if e := h.Refill(l); e != api.OK {
		t.Fatalf("Refill: %v", e)
	}
	return h
}

// shown is a node as a text, all of its fields.
func shown(x api.Node) string {
	return "{" + strconv.Itoa(x.Symbol) + " " + numbers(x.Args) + "; " + strconv.Itoa(x.Mark) + " " + strconv.FormatBool(x.Points) + " " + strconv.Itoa(x.To) + "}"
}

func shownList(l []api.Node) string {
	var words []string
	for _, x := range l {
		words = append(words, shown(x))
	}
	return strings.Join(words, " ")
}

func numbers(l []int) string {
	var words []string
	for _, n := range l {
		words = append(words, strconv.Itoa(n))
	}
	return strings.Join(words, " ")
}

func same(x, y api.Node) bool {
	return x.Symbol == y.Symbol && slices.Equal(x.Args, y.Args) && x.Mark == y.Mark && x.Points == y.Points && x.To == y.To
}

// nodesOf are a heap's nodes, by addresses.
func nodesOf(h *heap.Heap) model {
	var l model
	for _, x := range h.All() {
		l = append(l, x)
	}
	return l
}

// told is an error as the desk tells it: of each Fault its number, @ and its At, of an Errno at the end its number; an empty text of nil. What may not be is fatal.
func told(t testing.TB, err error) string {
	t.Helper()
	var words []string
	for depth := 0; err != nil; depth++ {
		if n, ok := err.(api.Errno); ok && depth > 0 {
			return strings.Join(append(words, strconv.Itoa(int(n))), " ")
		}
		x, ok := err.(*api.Fault)
		if !ok || x == nil {
			t.Fatalf("%v is neither a Fault nor, behind one, an Errno", err)
		}
		words = append(words, strconv.Itoa(int(x.Code))+"@"+strconv.Itoa(x.At))
		err = x.Why
	}
	return strings.Join(words, " ")
}

// What told makes of the Faults of this layer, and of none.
const (
	fine   = ""
	noArg  = "1@0"
	noNode = "160@0"
	tooFar = "161@0"
)

// outside are numbers that are no addresses, where there are so many nodes.
func outside(count int) []int {
	return []int{-1, -2, -4000, math.MinInt, count, count + 1, 4000, 4001, math.MaxInt}
}

// asked is a heap of which something is asked; each question says what the answer must be.
type asked struct {
	t testing.TB
	g *sig.Sig
	h *heap.Heap
}

// ask is about a heap of these nodes, by the tests' symbols.
func ask(t testing.TB, l ...api.Node) asked {
	t.Helper()
	return asked{t, signature(t), filled(t, l...)}
}

// stays asks whether what is done leaves the heap as it is, and the signature.
func (q asked) stays(do func()) {
	q.t.Helper()
	room, before, count := q.h.Room(), nodesOf(q.h), q.g.Len()
	do()
	if now := nodesOf(q.h); !slices.EqualFunc(now, before, same) || q.h.Room() != room || q.g.Len() != count {
		q.t.Errorf("room %d: %s was room %d: %s", q.h.Room(), shownList(now), room, shownList(before))
	}
}

func (q asked) size(a, want int) {
	q.t.Helper()
	q.stays(func() {
		if n, e := unravel.Size(q.h, a); n != want || e != api.OK {
			q.t.Errorf("Size(%d): %d, %v, not %d", a, n, e, want)
		}
	})
}

func (q asked) term(a int, want ...int) {
	q.t.Helper()
	q.stays(func() {
		if x, err := unravel.Term(q.h, a); !slices.Equal(x, want) || err != nil {
			q.t.Errorf("Term(%d): %v, %s, not %v", a, x, told(q.t, err), want)
		}
	})
}

func (q asked) copies(a, node int, want ...int) {
	q.t.Helper()
	q.stays(func() {
		if l, err := unravel.Copies(q.h, a, node); !slices.Equal(l, want) || err != nil {
			q.t.Errorf("Copies(%d, %d): %v, %s, not %v", a, node, l, told(q.t, err), want)
		}
	})
}

func (q asked) shared(a int, want ...int) {
	q.t.Helper()
	q.stays(func() {
		if l, e := unravel.Shared(q.h, a); !slices.Equal(l, want) || e != api.OK {
			q.t.Errorf("Shared(%d): %v, %v, not %v", a, l, e, want)
		}
	})
}

func (q asked) sharing(a int, want string) {
	q.t.Helper()
	q.stays(func() {
		if x, err := unravel.Sharing(q.g, q.h, a); x != want || err != nil {
			q.t.Errorf("Sharing(%d): %s, %s, not %s", a, x, told(q.t, err), want)
		}
	})
}

func (q asked) print(a, most int, want string) {
	q.t.Helper()
	q.stays(func() {
		if x, err := unravel.Print(q.g, q.h, a, most); x != want || err != nil {
			q.t.Errorf("Print(%d, %d): %s, %s, not %s", a, most, x, told(q.t, err), want)
		}
	})
}

func (q asked) noSize(a int, want api.Errno) {
	q.t.Helper()
	q.stays(func() {
		if n, e := unravel.Size(q.h, a); n != 0 || e != want {
			q.t.Errorf("Size(%d): %d, %v, not %v", a, n, e, want)
		}
		if l, e := unravel.Shared(q.h, a); len(l) != 0 || e != want {
			q.t.Errorf("Shared(%d): %v, %v, not %v", a, l, e, want)
		}
	})
}

func (q asked) noTerm(a int, want string) {
	q.t.Helper()
	q.stays(func() {
		if x, err := unravel.Term(q.h, a); len(x) != 0 || told(q.t, err) != want {
			q.t.Errorf("Term(%d): %v, %s, not %s", a, x, told(q.t, err), want)
		}
	})
}

func (q asked) noCopies(a, node int, want string) {
	q.t.Helper()
	q.stays(func() {
		if l, err := unravel.Copies(q.h, a, node); len(l) != 0 || told(q.t, err) != want {
			q.t.Errorf("Copies(%d, %d): %v, %s, not %s", a, node, l, told(q.t, err), want)
		}
	})
}

// mosts are numbers of symbols up to which Print might write a term of so many.
func mosts(size int) []int {
	return []int{math.MinInt, -1, 0, 1, size - 1, size, size + 1, 1999, 2000, 2001, 4000, math.MaxInt}
}

// noText asks for an error of both calls that write.
func (q asked) noText(a int, want string) {
	q.t.Helper()
	q.stays(func() {
		if x, err := unravel.Sharing(q.g, q.h, a); x != "" || told(q.t, err) != want {
			q.t.Errorf("Sharing(%d): %s, %s, not %s", a, x, told(q.t, err), want)
		}
		for _, most := range mosts(1) {
			if x, err := unravel.Print(q.g, q.h, a, most); x != "" || told(q.t, err) != want {
				q.t.Errorf("Print(%d, %d): %s, %s, not %s", a, most, x, told(q.t, err), want)
			}
		}
	})
}

// model is a heap's nodes; what it answers it works out by the chapter's words, on terms that are unravelled wholly: so these must be small.
type model []api.Node

// is is the address of the application that a node is.
func (m model) is(a int) int {
	if m[a].Points {
		return m.is(m[a].To)
	}
	return a
}

// stand are the applications that stand at the places of a node's term.
func (m model) stand(a int) []int {
	l := []int{m.is(a)}
	for _, b := range m[l[0]].Args {
		l = append(l, m.stand(b)...)
	}
	return l
}

func (m model) term(a int) []int {
	var t []int
	for _, b := range m.stand(a) {
		t = append(t, m[b].Symbol)
	}
	return t
}

// copies are the places to which those paths lead that lead in the graph from the one node to the other: each path is gone anew, from the root on.
func (m model) copies(a, node int) []int {
	var l []int
	for place, path := range m.paths(a) {
		at := m.is(a)
		for _, n := range path {
			at = m.is(m[at].Args[n])
		}
		if at == m.is(node) {
			l = append(l, place)
		}
	}
	return l
}

// paths are those to all places of a node's term.
func (m model) paths(a int) [][]int {
	l := [][]int{nil}
	for n, b := range m[m.is(a)].Args {
		for _, path := range m.paths(b) {
			l = append(l, slices.Concat([]int{n}, path))
		}
	}
	return l
}

// beneath tells of each address whether a node is that application, or that stands beneath it: what is an argument of one that is, till nothing more comes.
func (m model) beneath(a int) []bool {
	table := make([]bool, len(m))
	table[m.is(a)] = true
	for more := true; more; {
		more = false
		for b, x := range m {
			for _, c := range x.Args {
				if table[b] && !table[m.is(c)] {
					table[m.is(c)], more = true, true
				}
			}
		}
	}
	return table
}

func (m model) shared(a int) []int {
	var l []int
	table := m.beneath(a)
	for b := range m {
		count := 0
		for c, x := range m {
			for _, arg := range x.Args {
				if table[c] && m.is(arg) == b {
					count++
				}
			}
		}
		if count > 1 {
			l = append(l, b)
		}
	}
	return l
}

// named tells whether all that a node is, and that stands beneath it, has symbols of these, with as many arguments.
func (m model) named(symbols []api.Symbol, a int) bool {
	for b, is := range m.beneath(a) {
		if is && (m[b].Symbol >= len(symbols) || symbols[m[b].Symbol].Arity != len(m[b].Args)) {
			return false
		}
	}
	return true
}

// written is a node's term, by the words that stand for what stands at its places; of some of them the arguments are left out.
func (m model) written(a int, word func(b int) (string, bool)) string {
	l := m.stand(a)
	text, _ := m.writtenFrom(l, 0, word)
	return text
}

// writtenFrom is the subterm's text at a place, and the place behind it.
func (m model) writtenFrom(l []int, at int, word func(b int) (string, bool)) (string, int) {
	text, isAll := word(l[at])
	if isAll {
		return text, at + len(m.stand(l[at]))
	}
	var args []string
	next := at + 1
	for range m[l[at]].Args {
		var x string
		x, next = m.writtenFrom(l, next, word)
		args = append(args, x)
	}
	if len(args) == 0 {
		return text, next
	}
	return text + "(" + strings.Join(args, ",") + ")", next
}

func (m model) plain(symbols []api.Symbol, a int) string {
	return m.written(a, func(b int) (string, bool) { return symbols[m[b].Symbol].Name, false })
}

func (m model) sharing(symbols []api.Symbol, a int) string {
	shared := m.shared(a)
	var come []int // the number n has what stands here at n - 1
	return m.written(a, func(b int) (string, bool) {
		name := symbols[m[b].Symbol].Name
		if !slices.Contains(shared, b) {
			return name, false
		}
		if n := slices.Index(come, b); n >= 0 {
			return "*" + strconv.Itoa(n+1), true
		}
		come = append(come, b)
		return strconv.Itoa(len(come)) + ":" + name, false
	})
}

// agrees asks all that the package tells of a heap of these nodes, of each of them, and of some addresses that are none: how many of them can be written, and how many have shared ones beneath them.
func agrees(t testing.TB, symbols []api.Symbol, m model) (int, int) {
	t.Helper()
	q := asked{t, signatureOf(t, symbols...), filled(t, m...)}
	named, shared := 0, 0
	for a := range m {
		q.all(symbols, m, a)
		if m.named(symbols, a) {
			named++
		}
		if len(m.shared(a)) > 0 {
			shared++
		}
	}
	for _, a := range outside(len(m)) {
		q.none(a)
	}
	return named, shared
}

// all asks all that the package tells of a node.
func (q asked) all(symbols []api.Symbol, m model, a int) {
	q.t.Helper()
	q.size(a, len(m.stand(a)))
	q.term(a, m.term(a)...)
	q.shared(a, m.shared(a)...)
	table := m.beneath(a)
	for node := range m {
		places := m.copies(a, node)
		q.copies(a, node, places...)
		if table[m.is(node)] != (len(places) > 0) {
			q.t.Errorf("%d stands beneath %d: %v, but has the copies %v", node, a, table[m.is(node)], places)
		}
	}
	if m.named(symbols, a) {
		q.texts(symbols, m, a, a)
	} else {
		q.noText(a, noNode)
	}
}

// texts asks for what can be written of the node at a in the model, which is at now in the heap.
func (q asked) texts(symbols []api.Symbol, m model, a, now int) {
	q.t.Helper()
	plain, sharing, size := m.plain(symbols, a), m.sharing(symbols, a), len(m.stand(a))
	q.sharing(now, sharing)
	for _, most := range mosts(size) {
		if most >= size {
			q.print(now, most, plain)
		} else {
			q.print(now, most, sharing)
		}
	}
}

// none asks of an address that is none.
func (q asked) none(a int) {
	q.t.Helper()
	q.noSize(a, api.ErrUnravelNode)
	q.noTerm(a, noNode)
	q.noText(a, noNode)
	q.noCopies(a, a, noNode)
	for node := range q.h.Used() {
		q.noCopies(a, node, noNode)
		q.noCopies(node, a, noNode)
	}
}

// someNodes is a list that a seed chooses: its nodes lead forwards and backwards. Where strict, each application has as many arguments as its symbol says.
func someNodes(random *rand.Rand, count int, strict bool) model {
	order := random.Perm(count)
	l := make(model, count)
	for i, a := range order {
		l[a] = someNode(random, order[:i], strict)
	}
	return l
}

// someNode leads to some of these addresses.
func someNode(random *rand.Rand, to []int, strict bool) api.Node {
	if len(to) == 0 {
		return marked(random.Intn(3), []int{z, r}[random.Intn(2)])
	}
	if random.Intn(4) == 0 {
		return ind(to[random.Intn(len(to))])
	}
	symbol := []int{z, s, s, p, p, d, r, f}[random.Intn(8)]
	x := marked(random.Intn(3), symbol)
	for range symbols()[symbol].Arity {
		x.Args = append(x.Args, to[random.Intn(len(to))])
	}
	if !strict && random.Intn(6) == 0 {
		x.Symbol = []int{lacking, lacking + 1, math.MaxInt, z, s, p, six}[random.Intn(7)]
	}
	return x
}
