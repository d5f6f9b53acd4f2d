package graft_test

import (
	"math"
	"slices"
	"testing"

	"ropewalk/api"
	"ropewalk/code"
	"ropewalk/graft"
	"ropewalk/heap"
	"ropewalk/slide"
)

// heads asks a view for a node's Head.
func heads(t *testing.T, v code.View, node, want int, wantIs bool) {
	t.Helper()
	if n, is := v.Head(node); n != want || is != wantIs {
		t.Errorf("Head(%d): %d, %v, not %d, %v", node, n, is, want, wantIs)
	}
}

// leads asks a view for an argument.
func leads(t *testing.T, v code.View, node, n, want int) {
	t.Helper()
	if a := v.Arg(node, n); a != want {
		t.Errorf("Arg(%d, %d): %d, not %d", node, n, a, want)
	}
}

// P13.3: Head: applications and indirections, with each mark, with symbols that no signature has.
func TestHead(t *testing.T) {
	x := graft.Of(refilled(t, 12,
		app(z), marked(1, s, 0), marked(2, p, 0, 1), // 0 1 2
		ind(0), ind(1), ind(2), ind(5), // 3 4 5 6
		app(1000000), marked(1, 0), marked(2, 0), // 7 8 9
	))
	for node, want := range []struct {
		symbol int
		is     bool
	}{{z, false}, {s, true}, {p, true}, {z, false}, {s, true}, {p, true}, {p, true}, {1000000, false}, {0, true}, {0, true}} {
		heads(t, x, node, want.symbol, want.is)
	}
	for _, node := range outside(10) {
		heads(t, x, node, -1, false)
	}
}

// P13.3: Arg: the application that an argument is, of the application that a node is.
func TestArg(t *testing.T) {
	x := graft.Of(twigs(t, 12))
	for node, want := range [][]int{{}, {}, {0}, {2, 1}, {2, 1}, {2, 1}, {0, 1, 2, 3, 3, 3}, {0, 1, 2, 3, 3, 3}, {6}} {
		for n, a := range want {
			leads(t, x, node, n, a)
		}
		for _, n := range outside(len(want)) {
			leads(t, x, node, n, -1)
		}
	}
	for _, node := range outside(9) {
		for _, n := range []int{0, 1, -1, math.MinInt, math.MaxInt} {
			leads(t, x, node, n, -1)
		}
	}
}

// P13.3: a heap without nodes.
func TestSightOfEmpty(t *testing.T) {
	for _, h := range []*heap.Heap{empty(t, 1), empty(t, 4000), {}} {
		for _, node := range append(outside(0), 1) {
			heads(t, graft.Of(h), node, -1, false)
			leads(t, graft.Of(h), node, 0, -1)
		}
	}
}

// P13.3: of a nil heap, and of a Sight that Of did not make.
func TestSightOfNil(t *testing.T) {
	for _, x := range []graft.Sight{graft.Of(nil), {}} {
		for _, node := range append(outside(0), 1) {
			heads(t, x, node, -1, false)
			for _, n := range []int{0, 1, -1, math.MaxInt} {
				leads(t, x, node, n, -1)
			}
		}
	}
}

// P13.3: the heap as it is whenever it is asked: a sight, and a copy of it, see all that is done to the heap behind its making.
func TestSightSees(t *testing.T) {
	h := empty(t, 5)
	x := graft.Of(h)
	y := x
	both := func(ask func(v code.View)) {
		ask(x)
		ask(y)
		ask(&x)
	}
	both(func(v code.View) { heads(t, v, 0, -1, false) })
	h.Make(r)
	h.Make(s, 0)
	both(func(v code.View) { heads(t, v, 0, r, false); heads(t, v, 1, s, false); leads(t, v, 1, 0, 0) })
	h.Mark(0, api.Firm)
	both(func(v code.View) { heads(t, v, 0, r, true) })
	h.Mark(0, api.Settled)
	both(func(v code.View) { heads(t, v, 0, r, true) })
	h.Clear()
	both(func(v code.View) { heads(t, v, 0, r, false) })
	h.Make(z)
	h.Mark(2, api.Settled)
	h.Point(0, 2)
	both(func(v code.View) { heads(t, v, 0, z, true); leads(t, v, 1, 0, 2) })
	slide.Collect(h, []int{1})
	both(func(v code.View) { heads(t, v, 0, s, false); leads(t, v, 0, 0, 1); heads(t, v, 2, -1, false) })
	if a, err := graft.Load(signature(t), h, api.Term{d, r}); a != 3 || err != nil {
		t.Errorf("Load: %d, %s", a, told(t, err))
	}
	both(func(v code.View) { heads(t, v, 3, d, false); leads(t, v, 3, 0, 2) })
	h.Refill(nil)
	both(func(v code.View) { heads(t, v, 0, -1, false); leads(t, v, 0, 0, -1) })
}

// P13.3, R3: to be asked changes nothing; indirections stay as they were, too.
func TestSightChangesNothing(t *testing.T) {
	h := twigs(t, 12)
	before := nodesOf(t, h)
	x := graft.Of(h)
	for node := -2; node < 14; node++ {
		x.Head(node)
		for n := -2; n < 8; n++ {
			x.Arg(node, n)
		}
	}
	holds(t, h, 12, before...)
}

// P13.3, R1: long ways of indirections.
func TestSightDeep(t *testing.T) {
	l := []api.Node{marked(1, r)}
	for a := range 3998 {
		l = append(l, ind(a))
	}
	x := graft.Of(refilled(t, 4000, append(l, app(p, 3998, 5))...))
	heads(t, x, 3998, r, true)
	heads(t, x, 3999, p, false)
	leads(t, x, 3999, 0, 0)
	leads(t, x, 3999, 1, 0)
}

// P13.3: two heaps' sights are each that of its own.
func TestTwoSights(t *testing.T) {
	one, other := graft.Of(refilled(t, 3, app(z))), graft.Of(refilled(t, 3, marked(1, s, 1), app(r)))
	heads(t, one, 0, z, false)
	heads(t, other, 0, s, true)
	heads(t, one, 1, -1, false)
	leads(t, other, 0, 0, 1)
}

// found asks what code finds.
func found(t *testing.T, c api.Code, symbol int, v code.View, node int, want api.Found) {
	t.Helper()
	got, e := code.Run(c, symbol, v, node)
	if e != api.OK || got.Kind != want.Kind || got.Rule != want.Rule || got.Node != want.Node || !slices.Equal(got.Path, want.Path) {
		t.Errorf("Run of %d: %v, %v, not %v", node, got, e, want)
	}
}

// P13.3: code asks a sight: what is demanded, over indirections too; a node that is known to be rigid is not; a nil heap has no symbol.
func TestCodeAsksSight(t *testing.T) {
	c := compiled(t, "d(z) -> r; d(s(X)) -> X")
	h := refilled(t, 9, app(z), app(s, 0), app(r), ind(2), app(d, 3), app(d, 1), ind(5), app(d, 0))
	x := graft.Of(h)
	found(t, c, d, x, 7, api.Found{Kind: api.Fits, Rule: 0})
	found(t, c, d, x, 5, api.Found{Kind: api.Fits, Rule: 1})
	found(t, c, d, x, 6, api.Found{Kind: api.Fits, Rule: 1})
	found(t, c, d, x, 4, api.Found{Kind: api.Demand, Path: []int{0}, Node: 2})
	h.Mark(2, api.Firm)
	found(t, c, d, x, 4, api.Found{Kind: api.Rigid})
	h.Mark(2, api.Settled)
	found(t, c, d, x, 4, api.Found{Kind: api.Rigid})
	h.Mark(2, api.Fresh)
	h.Point(2, 1)
	found(t, c, d, x, 4, api.Found{Kind: api.Fits, Rule: 1})
	found(t, c, d, x, 99, api.Found{Kind: api.Rigid})
	found(t, c, d, graft.Of(nil), 4, api.Found{Kind: api.Rigid})
}
