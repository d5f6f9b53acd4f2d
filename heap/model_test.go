package heap_test

import (
	"math/rand"
	"slices"
	"strconv"
	"strings"
	"testing"

	"ropewalk/api"
	"ropewalk/heap"
)

// app is an application.
func app(symbol int, args ...int) api.Node { return api.Node{Symbol: symbol, Args: args} }

// marked is an application with a mark.
func marked(mark, symbol int, args ...int) api.Node {
	return api.Node{Symbol: symbol, Args: args, Mark: mark}
}

// ind is an indirection.
func ind(to int) api.Node { return api.Node{Points: true, To: to} }

// empty is a heap without nodes.
func empty(t *testing.T, room int) *heap.Heap {
	t.Helper()
	h, e := heap.New(room)
	if h == nil || e != api.OK {
		t.Fatalf("New(%d): %v", room, e)
	}
	return h
}

// filled is a heap that got its nodes one by one: the arguments of each stand ahead of it.
func filled(t *testing.T, room int, l ...api.Node) *heap.Heap {
	t.Helper()
	h := empty(t, room)
	for a, x := range l {
		if got, e := h.Make(x.Symbol, x.Args...); got != a || e != api.OK {
			t.Fatalf("Make of %s: %d, %v", shown(x), got, e)
		}
	}
	for a, x := range l {
		e := api.OK
		if x.Points {
			e = h.Point(a, x.To)
		} else if x.Mark != api.Fresh {
			e = h.Mark(a, x.Mark)
		}
		if e != api.OK {
			t.Fatalf("%s at %d: %v", shown(x), a, e)
		}
	}
	return h
}

// refilled is a heap that got its nodes at one time.
func refilled(t *testing.T, room int, l ...api.Node) *heap.Heap {
	t.Helper()
	h := empty(t, room)
	is(t, "Refill", h.Refill(l), api.OK)
	return h
}

// is asks for an error, or for none.
func is(t *testing.T, what string, got, want api.Errno) {
	t.Helper()
	if got != want {
		t.Errorf("%s: %v, not %v", what, got, want)
	}
}

// shown is a node as a text, all of its fields.
func shown(x api.Node) string {
	words := []string{strconv.Itoa(x.Symbol)}
	for _, a := range x.Args {
		words = append(words, strconv.Itoa(a))
	}
	return "{" + strings.Join(words, " ") + "; " + strconv.Itoa(x.Mark) + " " + strconv.FormatBool(x.Points) + " " + strconv.Itoa(x.To) + "}"
}

func shownList(l []api.Node) string {
	var words []string
	for _, x := range l {
		words = append(words, shown(x))
	}
	return strings.Join(words, " ")
}

// told is what All tells.
func told(t *testing.T, h *heap.Heap) []api.Node {
	t.Helper()
	var l []api.Node
	for a, x := range h.All() {
		if a != len(l) {
			t.Fatalf("All: %d comes where %d should", a, len(l))
		}
		l = append(l, x)
	}
	return l
}

// whole is all that a heap tells, as a text; that its calls agree is asked for on the way.
func whole(t *testing.T, h *heap.Heap) string {
	t.Helper()
	l := told(t, h)
	if h.Used() != len(l) {
		t.Fatalf("Used is %d, but All tells %d nodes", h.Used(), len(l))
	}
	text := strconv.Itoa(h.Room()) + ":"
	for a, x := range l {
		y, e := h.At(a)
		if shown(x) != shown(y) || e != api.OK {
			t.Fatalf("at %d All tells %s, At %s, %v", a, shown(x), shown(y), e)
		}
		is, e := h.Resolve(a)
		if e != api.OK {
			t.Fatalf("Resolve(%d): %v", a, e)
		}
		text += " " + shown(x) + "=" + strconv.Itoa(is)
	}
	for _, a := range []int{-1, len(l)} {
		if x, e := h.At(a); shown(x) != shown(api.Node{}) || e != api.ErrHeapNode {
			t.Fatalf("At(%d) of %d nodes: %s, %v", a, len(l), shown(x), e)
		}
	}
	return text
}

// holds asks whether a heap has just these nodes.
func holds(t *testing.T, h *heap.Heap, room int, l ...api.Node) {
	t.Helper()
	want := model{room: room, nodes: l}
	if got := whole(t, h); got != want.whole() {
		t.Errorf("%s, not %s", got, want.whole())
	}
}

// model is a heap by the chapter's words: each call looks at the plain list alone.
type model struct {
	room  int
	nodes []api.Node
}

func (m *model) has(a int) bool { return a >= 0 && a < len(m.nodes) }

// beneath says of each two addresses whether the second one stands beneath the first one: what stands right there, and what stands beneath that, till nothing more comes.
func beneath(l []api.Node) [][]bool {
	table := make([][]bool, len(l))
	for a, x := range l {
		table[a] = make([]bool, len(l))
		for _, b := range x.Args {
			table[a][b] = true
		}
		if x.Points {
			table[a][x.To] = true
		}
	}
	for more := true; more; {
		more = false
		for a := range l {
			for b := range l {
				for c := range l {
					if table[a][b] && table[b][c] && !table[a][c] {
						table[a][c], more = true, true
					}
				}
			}
		}
	}
	return table
}

// ring tells whether a node stands beneath itself.
func ring(l []api.Node) bool {
	table := beneath(l)
	for a := range l {
		if table[a][a] {
			return true
		}
	}
	return false
}

func (m *model) make(symbol int, args []int) (int, api.Errno) {
	if symbol < 0 || len(args) > 6 {
		return 0, api.ErrArg
	}
	for _, a := range args {
		if !m.has(a) {
			return 0, api.ErrHeapNode
		}
	}
	if len(m.nodes) == m.room {
		return 0, api.ErrHeapFull
	}
	m.nodes = append(slices.Clone(m.nodes), app(symbol, slices.Clone(args)...))
	return len(m.nodes) - 1, api.OK
}

func (m *model) resolve(a int) (int, api.Errno) {
	if !m.has(a) {
		return 0, api.ErrHeapNode
	}
	if m.nodes[a].Points {
		return m.resolve(m.nodes[a].To)
	}
	return a, api.OK
}

func (m *model) point(a, to int) api.Errno {
	if !m.has(a) || !m.has(to) {
		return api.ErrHeapNode
	}
	if a == to || beneath(m.nodes)[to][a] {
		return api.ErrHeapRing
	}
	m.nodes = slices.Clone(m.nodes)
	m.nodes[a] = ind(to)
	return api.OK
}

func (m *model) mark(a, mark int) api.Errno {
	if !m.has(a) || m.nodes[a].Points {
		return api.ErrHeapNode
	}
	if mark != 0 && mark != 1 && mark != 2 {
		return api.ErrArg
	}
	m.nodes = slices.Clone(m.nodes)
	m.nodes[a].Mark = mark
	return api.OK
}

func (m *model) clear() {
	m.nodes = slices.Clone(m.nodes)
	for a := range m.nodes {
		m.nodes[a].Mark = 0
	}
}

func (m *model) refill(l []api.Node) api.Errno {
	if len(l) > m.room {
		return api.ErrHeapFull
	}
	for _, x := range l {
		if misshapen(x, len(l)) {
			return api.ErrHeapShape
		}
	}
	if ring(l) {
		return api.ErrHeapRing
	}
	m.nodes = nil
	for _, x := range l {
		x.Args = slices.Clone(x.Args)
		m.nodes = append(m.nodes, x)
	}
	return api.OK
}

// misshapen tells whether a node of a list of so many may not be.
func misshapen(x api.Node, count int) bool {
	if x.Symbol < 0 || len(x.Args) > 6 || x.Mark < 0 || x.Mark > 2 {
		return true
	}
	for _, a := range x.Args {
		if a < 0 || a > count-1 {
			return true
		}
	}
	if x.Points {
		return x.To < 0 || x.To > count-1 || x.Symbol != 0 || x.Mark != 0 || len(x.Args) != 0
	}
	return x.To != 0
}

// whole is what whole tells of a heap that is as the chapter says.
func (m *model) whole() string {
	text := strconv.Itoa(m.room) + ":"
	for a, x := range m.nodes {
		is, _ := m.resolve(a)
		text += " " + shown(x) + "=" + strconv.Itoa(is)
	}
	return text
}

// someNumbers are so many numbers that a seed chooses, mostly addresses where there are count nodes.
func someNumbers(r *rand.Rand, many, count int) []int {
	var l []int
	for range many {
		l = append(l, someNumber(r, count))
	}
	return l
}

func someNumber(r *rand.Rand, count int) int {
	if count == 0 || r.Intn(25) == 0 {
		return []int{-1, count}[r.Intn(2)]
	}
	return r.Intn(count)
}

// someNodes is a list that a seed chooses, mostly such as may be: its nodes lead forwards or backwards, where it is in order.
func someNodes(r *rand.Rand, room int) []api.Node {
	count := r.Intn(room + 1)
	if r.Intn(20) == 0 {
		count = room + 1
	}
	order := r.Perm(count)
	l := make([]api.Node, count)
	for i, a := range order {
		l[a] = someNode(r, order[:i])
	}
	if count > 0 && r.Intn(4) == 0 {
		spoilNode(r, &l[r.Intn(count)], count)
	}
	return l
}

// someNode leads to some of these addresses.
func someNode(r *rand.Rand, to []int) api.Node {
	if len(to) > 0 && r.Intn(3) == 0 {
		return ind(to[r.Intn(len(to))])
	}
	x := marked(r.Intn(3), r.Intn(4))
	if len(to) > 0 {
		for range r.Intn(4) {
			x.Args = append(x.Args, to[r.Intn(len(to))])
		}
	}
	return x
}

// spoilNode changes a field of a node to what mostly may not be.
func spoilNode(r *rand.Rand, x *api.Node, count int) {
	switch r.Intn(7) {
	case 0:
		x.Symbol = r.Intn(3) - 1
	case 1:
		x.Mark = []int{-1, 1, 3}[r.Intn(3)]
	case 2:
		x.To = r.Intn(count+2) - 1
	case 3:
		x.Points = !x.Points
	case 4:
		x.Args = append(x.Args, someNumber(r, count))
	case 5:
		x.Args = slices.Repeat([]int{0}, 7)
	default:
		*x = ind(someNumber(r, count))
	}
}
