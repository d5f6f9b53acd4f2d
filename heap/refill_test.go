package heap_test

import (
	"math"
	"slices"
	"testing"

	"ropewalk/api"
	"ropewalk/heap"
)

// P11.6: each node once, by rising addresses.
func TestAll(t *testing.T) {
	l := []api.Node{app(5), marked(1, 7, 0, 0), ind(1), marked(2, 8, 2)}
	if got := shownList(told(t, filled(t, 9, l...))); got != shownList(l) {
		t.Errorf("All: %s", got)
	}
	for a, x := range empty(t, 9).All() {
		t.Errorf("All of none: %d, %s", a, shown(x))
	}
}

// P11.6, R4: a range tells what was there when it began, whatever is done within it; the next one tells what is there then.
func TestAllAsItWas(t *testing.T) {
	for what, change := range map[string]func(h *heap.Heap, a int){
		"made":     func(h *heap.Heap, a int) { h.Make(a, a) },
		"pointed":  func(h *heap.Heap, a int) { h.Point(3-a, 4) },
		"marked":   func(h *heap.Heap, a int) { h.Mark(0, a%3); h.Mark(3, 2); h.Mark(4, 1) },
		"cleared":  func(h *heap.Heap, a int) { h.Clear() },
		"refilled": func(h *heap.Heap, a int) { h.Refill([]api.Node{app(9, 1), app(8)}) },
		"emptied":  func(h *heap.Heap, a int) { h.Refill(nil) },
	} {
		l := []api.Node{marked(1, 5), marked(2, 6, 0, 0), ind(0), app(7, 1), marked(2, 8)}
		h := filled(t, 20, l...)
		all := h.All()
		var got []api.Node
		for a, x := range all {
			change(h, a)
			got = append(got, x)
		}
		if shownList(got) != shownList(l) {
			t.Errorf("%s: %s", what, shownList(got))
		}
		got = nil
		for _, x := range all {
			got = append(got, x)
		}
		if shownList(got) != shownList(told(t, h)) || shownList(got) == shownList(l) {
			t.Errorf("%s, and ranged over again: %s", what, shownList(got))
		}
	}
}

// P11.6: what was done between All and the range was there when the range began.
func TestAllBegins(t *testing.T) {
	h := filled(t, 5, app(1), app(2, 0))
	all := h.All()
	h.Make(3, 1)
	h.Point(1, 0)
	h.Mark(0, 2)
	var got []api.Node
	for _, x := range all {
		got = append(got, x)
	}
	if shownList(got) != shownList([]api.Node{marked(2, 1), ind(0), app(3, 1)}) {
		t.Errorf("%s", shownList(got))
	}
}

// R4: a range may be left early and ranged over again; and ranges may lie within one another.
func TestAllLeftEarly(t *testing.T) {
	l := []api.Node{app(0), app(1, 0), ind(1), app(3, 2), app(4)}
	h := filled(t, 5, l...)
	all := h.All()
	for stop := range l {
		met := 0
		for a := range all {
			met++
			if a == stop {
				break
			}
		}
		if met != stop+1 {
			t.Errorf("left at %d: %d met", stop, met)
		}
	}
	pairs := 0
	for a, x := range all {
		for b, y := range all {
			if shown(x) != shown(l[a]) || shown(y) != shown(l[b]) {
				t.Errorf("%d %s, %d %s", a, shown(x), b, shown(y))
			}
			pairs++
		}
	}
	if pairs != 25 {
		t.Errorf("%d pairs", pairs)
	}
	holds(t, h, 5, l...)
}

// P11.7: of no nodes, of one, of as many as there is room for, of more.
func TestRefillCounts(t *testing.T) {
	for _, room := range []int{1, 2, 7, 4000} {
		h := empty(t, room)
		h.Make(5)
		is(t, "Refill by more", h.Refill(make([]api.Node, room+1)), api.ErrHeapFull)
		is(t, "Refill by many more", h.Refill(make([]api.Node, room+5000)), api.ErrHeapFull)
		holds(t, h, room, app(5))
		for _, none := range [][]api.Node{nil, {}, make([]api.Node, 0, 9)} {
			is(t, "Refill by none", h.Refill(none), api.OK)
			holds(t, h, room)
			h.Make(6)
			holds(t, h, room, app(6))
		}
		is(t, "Refill", h.Refill(make([]api.Node, room)), api.OK)
		if h.Used() != room || h.Room() != room {
			t.Errorf("Used %d, Room %d; not %d", h.Used(), h.Room(), room)
		}
		if a, e := h.Make(1); a != 0 || e != api.ErrHeapFull {
			t.Errorf("Make in a full one: %d, %v", a, e)
		}
		is(t, "Refill by one", h.Refill([]api.Node{app(3)}), api.OK)
		holds(t, h, room, app(3))
		if a, e := h.Make(4, 0); room > 1 && (a != 1 || e != api.OK) {
			t.Errorf("Make: %d, %v", a, e)
		}
	}
}

// P11.7: nodes that may be, their arguments ahead of them and behind them; what was there is gone.
func TestRefill(t *testing.T) {
	for _, l := range [][]api.Node{
		{app(0)},
		{app(math.MaxInt)},
		{marked(2, 3)},
		{app(1, 1), app(2)},
		{ind(1), app(2)},
		{ind(1), ind(2), ind(3), marked(1, 4)},
		{app(1), app(2, 0), ind(1), marked(2, 3, 2, 2, 1, 0, 2, 1)},
		{app(1, 1, 1, 2, 3, 4, 4), app(2, 3), ind(3), ind(4), marked(1, 5)},
	} {
		h := filled(t, 9, app(7), marked(1, 7, 0), ind(1), app(7, 2), app(7, 3), app(7, 4))
		is(t, "Refill", h.Refill(l), api.OK)
		holds(t, h, 9, l...)
		if a, e := h.Make(6, len(l)-1); a != len(l) || e != api.OK {
			t.Errorf("Make: %d, %v", a, e)
		}
		holds(t, h, 9, append(slices.Clone(l), app(6, len(l)-1))...)
	}
}

// P11.2, P11.4, P11.7: what came by Refill is as good as what was made: a ring through what stands behind is found.
func TestPointBehindRefill(t *testing.T) {
	h := refilled(t, 5, app(1, 1), app(2, 2), ind(3), app(3))
	for _, to := range []int{0, 1, 2, 3} {
		is(t, "Point(3, ..)", h.Point(3, to), api.ErrHeapRing)
	}
	h.Make(4)
	is(t, "Point(3, 4)", h.Point(3, 4), api.OK)
	is(t, "Point(0, 2)", h.Point(0, 2), api.OK)
	is(t, "Point(4, 0)", h.Point(4, 0), api.ErrHeapRing)
	holds(t, h, 5, ind(2), app(2, 2), ind(3), ind(4), app(4))
}

// misshapes are nodes that may not stand in a list of two.
func misshapes() []api.Node {
	return []api.Node{
		app(-1), app(math.MinInt), app(-1, 1), app(1, -1), app(1, 2), app(1, 1, 2), app(1, 1, 1, 1, 1, 1, -1), app(1, math.MaxInt), app(1, math.MinInt),
		app(1, 1, 1, 1, 1, 1, 1, 1), app(1, make([]int, 1000)...),
		marked(-1, 1), marked(3, 1), marked(math.MaxInt, 1, 1), marked(math.MinInt, 1),
		{Symbol: 1, To: 1}, {Symbol: 1, To: -1}, {To: 1}, {Symbol: 1, Args: []int{1}, To: 2},
		ind(-1), ind(2), ind(math.MaxInt), ind(math.MinInt),
		{Points: true, To: 1, Symbol: 1}, {Points: true, To: 1, Symbol: -1}, {Points: true, To: 1, Mark: 1}, {Points: true, To: 1, Mark: 2}, {Points: true, To: 1, Mark: 3}, {Points: true, To: 1, Mark: -1},
		{Points: true, To: 1, Args: []int{1}}, {Points: true, To: 1, Args: make([]int, 7)},
	}
}

// P11.7, R3: each shape that may not be, ahead of others and behind them; and that what is refused changes nothing.
func TestRefillShapes(t *testing.T) {
	l := []api.Node{marked(1, 5), app(7, 0, 0), ind(1)}
	h := filled(t, 3, l...)
	for _, x := range misshapes() {
		is(t, "Refill by "+shown(x), h.Refill([]api.Node{x, app(1)}), api.ErrHeapShape)
		is(t, "Refill by "+shown(x), h.Refill([]api.Node{app(1), x}), api.ErrHeapShape)
		holds(t, h, 3, l...)
	}
	// In a list of one there is the address 0 alone.
	is(t, "Refill", h.Refill([]api.Node{app(1, 1)}), api.ErrHeapShape)
	is(t, "Refill", h.Refill([]api.Node{ind(1)}), api.ErrHeapShape)
	holds(t, h, 3, l...)
}

// rings are lists in which a node stands beneath itself: by arguments, by indirections, by both.
func rings() [][]api.Node {
	return [][]api.Node{
		{app(1, 0)},
		{ind(0)},
		{app(1), app(2, 1)},
		{app(1), ind(1)},
		{app(1, 1), app(2, 0)},
		{ind(1), ind(0)},
		{app(1, 1), ind(0)},
		{app(1), app(2, 0, 2), app(3, 0, 0, 0, 0, 0, 1)},
		{ind(1), ind(2), ind(0), app(1)},
		{app(1), ind(2), app(3, 0, 3), ind(1)},
		{app(1, 1), app(2, 2), ind(3), app(4, 4), app(5, 2, 5), app(6)},
	}
}

// P11.7, R3: rings; and that what is refused changes nothing.
func TestRefillRings(t *testing.T) {
	l := []api.Node{marked(1, 5), app(7, 0, 0), ind(1)}
	h := filled(t, 6, l...)
	for _, x := range rings() {
		is(t, "Refill by "+shownList(x), h.Refill(x), api.ErrHeapRing)
		holds(t, h, 6, l...)
	}
}

// P11.7, R2: which error is told first, wherever in the list it is.
func TestRefillErrorsInOrder(t *testing.T) {
	h := filled(t, 2, app(1), ind(0))
	for _, c := range []struct {
		what string
		l    []api.Node
		e    api.Errno
	}{
		{"full, shape, ring", []api.Node{app(1, 0), app(-1), app(1)}, api.ErrHeapFull},
		{"full, shape", []api.Node{app(-1), app(1), app(1)}, api.ErrHeapFull},
		{"full, ring", []api.Node{ind(0), app(1), app(1)}, api.ErrHeapFull},
		{"ring ahead, shape behind", []api.Node{app(1, 0), app(-1)}, api.ErrHeapShape},
		{"shape ahead, ring behind", []api.Node{marked(3, 1), ind(1)}, api.ErrHeapShape},
		{"shape and ring in one", []api.Node{app(1), {Points: true, To: 1, Mark: 1}}, api.ErrHeapShape},
		{"an argument that is none, and a ring", []api.Node{app(1, 0, 2), app(1)}, api.ErrHeapShape},
		{"ring", []api.Node{app(1), ind(1)}, api.ErrHeapRing},
	} {
		is(t, c.what, h.Refill(c.l), c.e)
		holds(t, h, 2, app(1), ind(0))
	}
}

// P11.7, P11.8: all lists of three nodes: just those in which no node stands beneath itself are taken; and in those, just those Points that make none.
func TestAllOfThree(t *testing.T) {
	var nodes []api.Node
	nodes = append(nodes, app(0))
	for a := range 3 {
		nodes = append(nodes, ind(a), app(1, a))
		for b := range 3 {
			nodes = append(nodes, app(2, a, b))
		}
	}
	h := empty(t, 3)
	taken, refused := 0, 0
	for _, x := range nodes {
		for _, y := range nodes {
			for _, z := range nodes {
				l := []api.Node{x, y, z}
				if ring(l) {
					is(t, shownList(l), h.Refill(l), api.ErrHeapRing)
					refused++
					continue
				}
				is(t, shownList(l), h.Refill(l), api.OK)
				holds(t, h, 3, l...)
				pointEach(t, l)
				taken++
			}
		}
	}
	if taken < 100 || refused < 1000 {
		t.Errorf("%d taken, %d refused", taken, refused)
	}
}

// pointEach holds each Point of a heap against the chapter's words.
func pointEach(t *testing.T, l []api.Node) {
	t.Helper()
	for a := range l {
		for to := range l {
			h, m := refilled(t, len(l), l...), model{len(l), l}
			is(t, shownList(l), h.Point(a, to), m.point(a, to))
			holds(t, h, len(l), m.nodes...)
		}
	}
}

// P11.8: Refill by what All tells changes nothing, of a heap of another one's neither.
func TestRefillByAll(t *testing.T) {
	l := []api.Node{app(5), marked(1, 7, 0, 0), ind(1), marked(2, 8, 2, 1), ind(2), app(9, 4)}
	for _, h := range []*heap.Heap{filled(t, 6, l...), refilled(t, 6, l...)} {
		is(t, "Point", h.Point(1, 0), api.OK)
		before := whole(t, h)
		is(t, "Refill", h.Refill(told(t, h)), api.OK)
		if whole(t, h) != before {
			t.Errorf("%s, not %s", whole(t, h), before)
		}
		other := refilled(t, 6, told(t, h)...)
		if whole(t, other) != before {
			t.Errorf("%s, not %s", whole(t, other), before)
		}
		is(t, "Point", other.Point(0, 1), api.ErrHeapRing)
	}
}
