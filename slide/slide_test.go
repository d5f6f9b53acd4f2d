package slide_test

import (
	"slices"
	"testing"

	"ropewalk/api"
	"ropewalk/heap"
	"ropewalk/slide"
)

// example is the chapter's heap.
func example(t *testing.T) *heap.Heap {
	t.Helper()
	return refilled(t, 6, app(1), app(2, 0), app(1), app(3, 1, 2), ind(3), marked(1, 4, 4))
}

// P12.1, P12.2: the chapter's examples.
func TestExamples(t *testing.T) {
	h := example(t)
	lives(t, h, []int{4}, []int{0, 1, 2, 3}, api.OK)
	lives(t, h, nil, nil, api.OK)
	lives(t, h, []int{6}, nil, api.ErrSlideRoots)
	collects(t, h, []int{5, 2, 5}, []int{4, 2, 4}, 1, app(1), app(2, 0), app(1), app(3, 1, 2), marked(1, 4, 3))
	collects(t, h, []int{1}, []int{1}, 3, app(1), app(2, 0))
}

// P12.1: what the roots are and what stands beneath that, by rising addresses, whatever order the roots are in; none of it twice.
func TestLive(t *testing.T) {
	h := refilled(t, 9,
		app(1),          // 0
		app(2, 0, 0),    // 1: twice the same
		app(3, 6, 1),    // 2: one argument behind it
		ind(2),          // 3
		ind(3),          // 4: to an indirection
		app(4),          // 5: nobody's
		marked(2, 5, 0), // 6
		app(6, 4, 8),    // 7: by indirections to indirections
		ind(0),          // 8
	)
	for _, c := range []struct{ roots, want []int }{
		{nil, nil},
		{[]int{}, nil},
		{[]int{0}, []int{0}},
		{[]int{5}, []int{5}},
		{[]int{1}, []int{0, 1}},
		{[]int{6}, []int{0, 6}},
		{[]int{2}, []int{0, 1, 2, 6}},
		{[]int{3}, []int{0, 1, 2, 6}},
		{[]int{4}, []int{0, 1, 2, 6}},
		{[]int{8}, []int{0}},
		{[]int{7}, []int{0, 1, 2, 6, 7}},
		{[]int{5, 6}, []int{0, 5, 6}},
		{[]int{6, 5}, []int{0, 5, 6}},
		{[]int{6, 6, 6}, []int{0, 6}},
		{[]int{4, 2, 3}, []int{0, 1, 2, 6}},
		{[]int{0, 8, 1}, []int{0, 1}},
		{[]int{1, 8, 0}, []int{0, 1}},
		{[]int{7, 6, 5, 4, 3, 2, 1, 0, 8}, []int{0, 1, 2, 5, 6, 7}},
	} {
		lives(t, h, c.roots, c.want, api.OK)
	}
}

// P12.1, P12.2, R2, R3: a root that is no node's address, wherever it stands among others; at Used, where there is room behind it, too.
func TestNoNode(t *testing.T) {
	for _, room := range []int{6, 7, 4000} {
		h := refilled(t, room, app(1), app(2, 0), app(1), app(3, 1, 2), ind(3), marked(1, 4, 4))
		for _, a := range outside(6) {
			for _, roots := range [][]int{{a}, {a, 0}, {0, a}, {5, 4, a, 3}, {a, a}} {
				refuses(t, h, roots, api.ErrSlideRoots)
			}
		}
		refuses(t, h, []int{-1, 6}, api.ErrSlideRoots)
	}
}

// P12.1, P12.2: a heap without nodes: nothing is kept, and no root is a node's address.
func TestNoNodes(t *testing.T) {
	for _, room := range []int{1, 3, 4000} {
		h := empty(t, room)
		for _, roots := range [][]int{nil, {}} {
			lives(t, h, roots, nil, api.OK)
			collects(t, h, roots, nil, 0)
		}
		for _, a := range append(outside(0), 1) {
			refuses(t, h, []int{a}, api.ErrSlideRoots)
		}
	}
}

// P12.1, P12.2: one node.
func TestOneNode(t *testing.T) {
	for _, room := range []int{1, 2} {
		h := refilled(t, room, marked(2, 7))
		lives(t, h, []int{0}, []int{0}, api.OK)
		collects(t, h, []int{0}, []int{0}, 0, marked(2, 7))
		collects(t, h, []int{0, 0}, []int{0, 0}, 0, marked(2, 7))
		refuses(t, h, []int{1}, api.ErrSlideRoots)
		lives(t, h, nil, nil, api.OK)
		collects(t, h, nil, nil, 1)
		refuses(t, h, []int{0}, api.ErrSlideRoots)
	}
}

// P12.2: for no roots nothing is left, and there is room for as much as at the beginning.
func TestCollectForNothing(t *testing.T) {
	for _, roots := range [][]int{nil, {}} {
		h := example(t)
		collects(t, h, roots, nil, 6)
		for a := range 6 {
			if b, e := h.Make(9); b != a || e != api.OK {
				t.Errorf("Make: %d, %v", b, e)
			}
		}
		if _, e := h.Make(9); e != api.ErrHeapFull {
			t.Errorf("Make: %v", e)
		}
	}
}

// P12.2: where all is kept nothing changes: neither addresses nor marks nor an order in which arguments stand behind.
func TestCollectAll(t *testing.T) {
	for _, l := range [][]api.Node{
		{app(1), app(2, 0), marked(1, 3, 1, 0), marked(2, 4, 2, 2)},
		{marked(2, 4, 1, 1), marked(1, 3, 2, 3), app(2, 3), app(1)},
		{app(1), marked(1, 5, 0, 3, 2), marked(2, 1), app(2, 0)},
	} {
		h := refilled(t, 5, l...)
		all := []int{3, 0, 2, 1}
		lives(t, h, all, []int{0, 1, 2, 3}, api.OK)
		collects(t, h, all, all, 0, l...)
	}
}

// P12.2: all is kept for one root, at either end.
func TestCollectAllForOne(t *testing.T) {
	for top, l := range map[int][]api.Node{
		3: {app(1), app(2, 0), marked(1, 3, 1, 0), marked(2, 4, 2, 2)},
		0: {marked(2, 4, 1, 1), marked(1, 3, 2, 3), app(2, 3), app(1)},
	} {
		h := refilled(t, 5, l...)
		lives(t, h, []int{top}, []int{0, 1, 2, 3}, api.OK)
		collects(t, h, []int{top}, []int{top}, 0, l...)
	}
}

// P12.2: the n-th that is kept is at the address n, with its symbol, its mark and its arguments in their order; what is not kept leaves no gap.
func TestCollectSlides(t *testing.T) {
	l := []api.Node{
		app(11),                   // 0: goes
		marked(1, 12),             // 1
		app(13, 0),                // 2: goes
		marked(2, 14),             // 3
		app(15, 3, 1, 3),          // 4
		app(15, 1, 3, 1),          // 5: goes
		marked(1, 0, 4, 1, 4),     // 6: with the symbol 0
		marked(2, 1000000, 6),     // 7: with a symbol that no signature has
		marked(1, 17, 7, 7, 2),    // 8: goes
		app(18, 3, 6, 1, 7, 4),    // 9
		app(19, 9, 8, 7, 6, 5),    // 10: goes
		app(20, 4, 4, 4, 4, 4, 9), // 11
	}
	h := refilled(t, 20, l...)
	lives(t, h, []int{11}, []int{1, 3, 4, 6, 7, 9, 11}, api.OK)
	collects(t, h, []int{11, 4, 1, 7, 3, 9, 6}, []int{6, 2, 0, 4, 1, 5, 3}, 5,
		marked(1, 12),
		marked(2, 14),
		app(15, 1, 0, 1),
		marked(1, 0, 2, 0, 2),
		marked(2, 1000000, 3),
		app(18, 1, 3, 0, 4, 2),
		app(20, 2, 2, 2, 2, 2, 5),
	)
}

// P12.2: arguments that stand behind what has them, as Refill takes them: the order is that of the addresses, not that of the walk.
func TestCollectBackwards(t *testing.T) {
	h := refilled(t, 9,
		app(1, 5, 2),    // 0
		ind(0),          // 1
		marked(2, 2, 4), // 2
		app(3),          // 3: goes
		ind(6),          // 4
		app(4, 4, 2),    // 5
		marked(1, 5),    // 6
	)
	lives(t, h, []int{1}, []int{0, 2, 5, 6}, api.OK)
	collects(t, h, []int{1, 5, 4, 0}, []int{0, 2, 3, 0}, 3, app(1, 2, 1), marked(2, 2, 3), app(4, 3, 1), marked(1, 5))
}

// P12.2: indirections go: those that are roots, those that are arguments, those that point to others; two roots that are one application are one address.
func TestCollectIndirections(t *testing.T) {
	h := refilled(t, 9,
		app(1),                // 0
		ind(0),                // 1
		ind(1),                // 2
		app(2, 2, 1, 0),       // 3: one application by three addresses
		ind(3),                // 4
		marked(1, 3, 4),       // 5
		ind(5),                // 6
		ind(6),                // 7
		marked(2, 4, 7, 2, 6), // 8
	)
	lives(t, h, []int{7, 6, 5, 4}, []int{0, 3, 5}, api.OK)
	lives(t, h, []int{8}, []int{0, 3, 5, 8}, api.OK)
	collects(t, h, []int{7, 5, 6, 2, 0, 1, 4, 3, 8, 7}, []int{2, 2, 2, 0, 0, 0, 1, 1, 3, 2}, 5,
		app(1), app(2, 0, 0, 0), marked(1, 3, 1), marked(2, 4, 2, 0, 2))

	h = refilled(t, 4, app(1), ind(0), ind(1), ind(2))
	lives(t, h, []int{3}, []int{0}, api.OK)
	collects(t, h, []int{3, 1}, []int{0, 0}, 3, app(1))
	h = refilled(t, 4, ind(1), ind(2), ind(3), marked(2, 1))
	lives(t, h, []int{0}, []int{3}, api.OK)
	collects(t, h, []int{0, 3, 0}, []int{0, 0, 0}, 3, marked(2, 1))
}

// P12.2: how many nodes went is how many there are less: what nobody keeps, and all indirections.
func TestHowManyWent(t *testing.T) {
	for _, c := range []struct {
		roots []int
		went  int
	}{{[]int{0}, 5}, {[]int{1}, 4}, {[]int{2}, 5}, {[]int{3}, 2}, {[]int{4}, 2}, {[]int{5}, 1}, {[]int{0, 2}, 4}, {[]int{4, 5, 3}, 1}, {nil, 6}} {
		h := example(t)
		if _, went, e := slide.Collect(h, c.roots); went != c.went || e != api.OK || h.Used() != 6-c.went {
			t.Errorf("Collect of %v: %d went, %d are left, %v", c.roots, went, h.Used(), e)
		}
	}
}

// P12.2: behind a Collect there is room again for as many nodes as went, and what is made then is laid behind what was kept.
func TestRoomAgain(t *testing.T) {
	h := example(t)
	if _, e := h.Make(9); e != api.ErrHeapFull {
		t.Fatalf("Make: %v", e)
	}
	collects(t, h, []int{3}, []int{3}, 2, app(1), app(2, 0), app(1), app(3, 1, 2))
	for i := range 2 {
		if a, e := h.Make(9, 3, i); a != 4+i || e != api.OK {
			t.Errorf("Make: %d, %v", a, e)
		}
	}
	if _, e := h.Make(9); e != api.ErrHeapFull {
		t.Errorf("Make: %v", e)
	}
	holds(t, h, 6, app(1), app(2, 0), app(1), app(3, 1, 2), app(9, 3, 0), app(9, 3, 1))
	if e := h.Point(5, 1); e != api.OK {
		t.Errorf("Point: %v", e)
	}
	collects(t, h, []int{5, 4}, []int{1, 4}, 1, app(1), app(2, 0), app(1), app(3, 1, 2), app(9, 3, 0))
}

// P12.3: another Collect of the answered roots changes nothing, how often it may be done.
func TestCollectAgain(t *testing.T) {
	h := example(t)
	roots, _, _ := slide.Collect(h, []int{5, 2, 5})
	for range 3 {
		packed(t, h, roots)
	}
	// Of fewer of them it may leave less.
	collects(t, h, roots[1:2], []int{0}, 4, app(1))
}

// P12.3: the terms of the roots stay, and nodes that were shared are so still.
func TestTermsStay(t *testing.T) {
	l := model{app(1), ind(0), app(2, 1, 0), ind(2), app(3, 3, 2), app(9, 4)}
	h := refilled(t, 6, l...)
	roots := []int{4, 3, 1}
	then, _, _ := slide.Collect(h, roots)
	got := model(nodesOf(t, h))
	if !slices.Equal(got.terms(then), []string{"3/2 2/2 1/0 1/0 2/2 1/0 1/0", "2/2 1/0 1/0", "1/0"}) || !slices.Equal(got.terms(then), l.terms(roots)) {
		t.Errorf("%v", got.terms(then))
	}
	holds(t, h, 6, app(1), app(2, 0, 0), app(3, 1, 1))
}

// P12.1, P12.2: lists of roots that are longer than the heap.
func TestManyRoots(t *testing.T) {
	h := example(t)
	roots := slices.Repeat([]int{5, 4, 0}, 10000)
	lives(t, h, roots, []int{0, 1, 2, 3, 5}, api.OK)
	refuses(t, h, append(slices.Clone(roots), 6), api.ErrSlideRoots)
	collects(t, h, roots, slices.Repeat([]int{4, 3, 0}, 10000), 1, app(1), app(2, 0), app(1), app(3, 1, 2), marked(1, 4, 3))
}
