package slide_test

import (
	"math"
	"math/rand"
	"slices"
	"strconv"
	"strings"
	"testing"

	"ropewalk/api"
	"ropewalk/heap"
	"ropewalk/slide"
)

// app is an application.
func app(symbol int, args ...int) api.Node { return api.Node{Symbol: symbol, Args: args} }

// marked is an application with a mark.
func marked(mark, symbol int, args ...int) api.Node {
	return api.Node{Symbol: symbol, Args: args, Mark: mark}
}

// ind is an indirection.
func ind(to int) api.Node { return api.Node{Points: true, To: to} }

// empty is a heap without nodes.
func empty(t *testing.T, room int) *heap.Heap {
	t.Helper()
	h, e := heap.New(room)
	if h == nil || e != api.OK {
		t.Fatalf("New(%d): %v", room, e)
	}
	return h
}

// refilled is a heap that has these nodes.
func refilled(t *testing.T, room int, l ...api.Node) *heap.Heap {
	t.Helper()
	h := empty(t, room)
	if e := h.Refill(l); e != api.OK {
		t.Fatalf("Refill: %v", e)
	}
	return h
}

// shown is a node as a text, all of its fields.
func shown(x api.Node) string {
	return "{" + strconv.Itoa(x.Symbol) + " " + numbers(x.Args) + "; " + strconv.Itoa(x.Mark) + " " + strconv.FormatBool(x.Points) + " " + strconv.Itoa(x.To) + "}"
}

func shownList(l []api.Node) string {
	var words []string
	for _, x := range l {
		words = append(words, shown(x))
	}
	return strings.Join(words, " ")
}

func numbers(l []int) string {
	var words []string
	for _, n := range l {
		words = append(words, strconv.Itoa(n))
	}
	return strings.Join(words, " ")
}

// nodesOf are a heap's nodes, by addresses.
func nodesOf(t *testing.T, h *heap.Heap) []api.Node {
	t.Helper()
	var l []api.Node
	for a, x := range h.All() {
		if a != len(l) {
			t.Fatalf("All: %d comes where %d should", a, len(l))
		}
		l = append(l, x)
	}
	if h.Used() != len(l) {
		t.Fatalf("Used is %d, but All tells %d nodes", h.Used(), len(l))
	}
	return l
}

// holds asks whether a heap has just these nodes, and that room.
func holds(t *testing.T, h *heap.Heap, room int, l ...api.Node) {
	t.Helper()
	if got := shownList(nodesOf(t, h)); got != shownList(l) || h.Room() != room {
		t.Errorf("room %d: %s, not %d: %s", h.Room(), got, room, shownList(l))
	}
}

// lives asks Live, which must change nothing.
func lives(t *testing.T, h *heap.Heap, roots, want []int, wantE api.Errno) {
	t.Helper()
	room, before := h.Room(), nodesOf(t, h)
	if got, e := slide.Live(h, roots); !slices.Equal(got, want) || e != wantE {
		t.Errorf("Live of %v: %v, %v, not %v, %v; of %s", roots, got, e, want, wantE, shownList(before))
	}
	holds(t, h, room, before...)
}

// collects asks Collect, which must leave just these nodes.
func collects(t *testing.T, h *heap.Heap, roots, want []int, wantWent int, left ...api.Node) {
	t.Helper()
	room, before := h.Room(), nodesOf(t, h)
	if got, went, e := slide.Collect(h, roots); !slices.Equal(got, want) || went != wantWent || e != api.OK {
		t.Errorf("Collect of %v: %v, %d, %v, not %v, %d; of %s", roots, got, went, e, want, wantWent, shownList(before))
	}
	holds(t, h, room, left...)
}

// refuses asks for an error of both calls, which must change nothing.
func refuses(t *testing.T, h *heap.Heap, roots []int, want api.Errno) {
	t.Helper()
	lives(t, h, roots, nil, want)
	room, before := h.Room(), nodesOf(t, h)
	if got, went, e := slide.Collect(h, roots); len(got) != 0 || went != 0 || e != want {
		t.Errorf("Collect of %v: %v, %d, %v, not %v; of %s", roots, got, went, e, want, shownList(before))
	}
	holds(t, h, room, before...)
}

// outside are numbers that are no addresses, where there are so many nodes.
func outside(count int) []int {
	return []int{-1, -2, -4000, math.MinInt, count, count + 1, 4000, 4001, math.MaxInt}
}

// model is a heap's nodes; what it answers it works out by the chapter's words alone.
type model []api.Node

// is is the address of the application that a node is.
func (m model) is(a int) int {
	if m[a].Points {
		return m.is(m[a].To)
	}
	return a
}

// live are the applications that are kept: those that the roots' nodes are, and those that are arguments of such, till nothing more comes.
func (m model) live(roots []int) ([]int, api.Errno) {
	table := make([]bool, len(m))
	for _, a := range roots {
		if a < 0 || a > len(m)-1 {
			return nil, api.ErrSlideRoots
		}
		table[m.is(a)] = true
	}
	for more := true; more; {
		more = false
		for a, x := range m {
			for _, b := range x.Args {
				if c := m.is(b); table[a] && !table[c] {
					table[c], more = true, true
				}
			}
		}
	}
	var l []int
	for a := range m {
		if table[a] {
			l = append(l, a)
		}
	}
	return l, api.OK
}

// collected are the nodes behind a Collect, and its answers.
func (m model) collected(roots []int) (model, []int, int, api.Errno) {
	live, e := m.live(roots)
	if e != api.OK {
		return m, nil, 0, e
	}
	var nodes model
	for _, a := range live {
		x := marked(m[a].Mark, m[a].Symbol)
		for _, b := range m[a].Args {
			x.Args = append(x.Args, slices.Index(live, m.is(b)))
		}
		nodes = append(nodes, x)
	}
	var then []int
	for _, a := range roots {
		then = append(then, slices.Index(live, m.is(a)))
	}
	return nodes, then, len(m) - len(live), api.OK
}

// term is the term of a node, as a text.
func (m model) term(a int) string {
	x := m[m.is(a)]
	words := []string{strconv.Itoa(x.Symbol) + "/" + strconv.Itoa(len(x.Args))}
	for _, b := range x.Args {
		words = append(words, m.term(b))
	}
	return strings.Join(words, " ")
}

// terms are the terms of some nodes.
func (m model) terms(l []int) []string {
	var words []string
	for _, a := range l {
		words = append(words, m.term(a))
	}
	return words
}

// ringed tells whether a node of a list stands beneath itself.
func ringed(t *testing.T, l []api.Node) bool {
	t.Helper()
	e := empty(t, len(l)).Refill(l)
	if e != api.OK && e != api.ErrHeapRing {
		t.Fatalf("Refill: %v; of %s", e, shownList(l))
	}
	return e == api.ErrHeapRing
}

// agrees does Live and Collect to a heap of these nodes, and asks for all that the chapter says of them.
func agrees(t *testing.T, room int, m model, roots []int) (api.Errno, int) {
	t.Helper()
	h := refilled(t, room, m...)
	want, wantE := m.live(roots)
	lives(t, h, roots, want, wantE)
	nodes, then, went, _ := m.collected(roots)
	if wantE != api.OK {
		refuses(t, h, roots, wantE)
		return wantE, 0
	}
	collects(t, h, roots, then, went, nodes...)
	got := model(nodesOf(t, h))
	if !slices.Equal(got.terms(then), m.terms(roots)) {
		t.Errorf("the terms of %v were %v, and are %v; of %s", roots, m.terms(roots), got.terms(then), shownList(m))
	}
	packed(t, h, then)
	return api.OK, went
}

// packed asks for what there is behind a Collect that answered these roots.
func packed(t *testing.T, h *heap.Heap, then []int) {
	t.Helper()
	l := nodesOf(t, h)
	for a, x := range l {
		if x.Points {
			t.Errorf("an indirection is left at %d: %s", a, shownList(l))
		}
	}
	all := make([]int, len(l))
	for a := range l {
		all[a] = a
	}
	lives(t, h, then, all, api.OK)
	collects(t, h, then, then, 0, l...)
}

// someNodes is a list that a seed chooses: its nodes lead forwards and backwards.
func someNodes(r *rand.Rand, count int) []api.Node {
	order := r.Perm(count)
	l := make([]api.Node, count)
	for i, a := range order {
		l[a] = someNode(r, order[:i])
	}
	return l
}

// someNode leads to some of these addresses.
func someNode(r *rand.Rand, to []int) api.Node {
	if len(to) > 0 && r.Intn(3) == 0 {
		return ind(to[r.Intn(len(to))])
	}
	x := marked(r.Intn(3), r.Intn(5))
	if len(to) > 0 {
		for range r.Intn(4) {
			x.Args = append(x.Args, to[r.Intn(len(to))])
		}
	}
	return x
}

// someRoots are mostly addresses, where there are so many nodes.
func someRoots(r *rand.Rand, count int) []int {
	var l []int
	for range r.Intn(5) {
		if count == 0 || r.Intn(30) == 0 {
			l = append(l, []int{-1, count}[r.Intn(2)])
		} else {
			l = append(l, r.Intn(count))
		}
	}
	return l
}
